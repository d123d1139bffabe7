import PyProof.Rows.All
import Wide.All
import OpenK.AllK
import Wide.FinOn
import Lean
import PyProof.EqAt
import PyProof.EqKinds
import PyProof.TupleCall
import KE.KMinKey
import PySem.Challenge.RW_evenhub_k40_no_counterweights
set_option Elab.async false
set_option linter.all false
set_option maxRecDepth 100000
abbrev zdg:=PySem.W.Frag
theorem J{p:Prop}(h:p:=by lia):p:=h
theorem O{p:Prop}(h:p:=by decide):p:=h
theorem kf{p:Prop}(h:p:=by rfl):p:=h
theorem kd{p:Prop}(h:p:=by decide +kernel):p:=h
theorem kg{p:Prop}(h:p:=by omega):p:=h
theorem ke{p:Prop}(h:p:=by simp):p:=h
theorem kq{p:Prop}(h:p:=by show 2 ≤ PySem.sizeLine; decide):p:=h
theorem kC{p:Prop}(h:p:=by show 1 ≤ PySem.sizeLine; decide):p:=h
theorem kY{p:Prop}(h:p:=by show 3 ≤ PySem.sizeLine; decide):p:=h
theorem kN{p:Prop}(h:p:=by show 4 ≤ PySem.sizeLine; decide):p:=h
theorem ziU{p:Prop}(h:p:=by rw [aa]; lia):p:=h
theorem ziV{p:Prop}(h:p:=by show 1 * _ ≤ _; exact n5 J):p:=h
theorem ziW{p:Prop}(h:p:=by rw [af, Rx.mW J]; rfl):p:=h
theorem ziX{p:Prop}(h:p:=by kernel_rfl):p:=h
theorem ziY{p:Prop}(h:p:=by rw [aa, aa]):p:=h
theorem ziZ{p:Prop}(h:p:=by rw [cC]; exact bq _):p:=h
theorem zja{p:Prop}(h:p:=by rw [aa, Rx.o6]; lia):p:=h
theorem Z{α:Sort _}{a:α}:a=a:=rfl
def aa:=@List.length_map
def ae:=@Int.toNat_natCast
def af:=@List.getElem?_map
def ah:=@List.mem_of_getElem?
def ak:=@if_neg
def ao:=@List.getD_eq_getElem?_getD
def aq:=@Int.mul_le_mul_of_nonneg_right
def ar:=@List.mem_cons_of_mem
def av:=@List.mem_cons_self
def ax:=@Int.dvd_mul_of_dvd_right
def ay:=@Int.mul_le_mul_of_nonneg_left
def az:=@List.getElem?_eq_getElem
def aA:=@Int.emod_lt_of_pos
def aB:=@if_pos
def aC:=@Int.mul_comm
def aD:=@Int.dvd_mul_of_dvd_left
def aE:=@Int.emod_nonneg
def aF:=@List.getElem?_eq_some_iff
def aG:=@Int.mul_ediv_cancel_left
def aH:=@Nat.le_refl
def aI:=@List.length_append
def aJ:=@PySem.PassesOwn.never
def aK:=@Int.mul_assoc
def aL:=@Int.emod_eq_emod_iff_emod_sub_eq_zero
def aM:=@PySem.Heap.get?_push_of_some
def aO:=@PySem.wpAny_bind
def aP:=@Int.natCast_mul
def aQ:=@List.length_replicate
def aR:=@Int.natAbs_mul
def aS:=@List.map_append
def aT:=@Int.eq_of_mul_eq_mul_left
def aU:=@Bool.false_ne_true
def aW:=@Int.le_of_dvd
def aX:=@Int.emod_eq_of_lt
def aY:=@Classical.byContradiction
def aZ:=@List.mem_append_right
def bf:=@Int.emod_emod_of_dvd
def bi:=@Int.natAbs_dvd_natAbs
def bj:=@Nat.lt_of_lt_of_le
def bn:=@Int.zero_mul
def bp:=@Int.dvd_sub
def bq:=@Int.dvd_zero
def bu:=@Int.pow_succ
def bw:=@Int.mul_zero
def bx:=@Nat.not_lt_zero
def bB:=@PySem.Heap.lt_size
def bE:=@List.length_cons
def bF:=@List.mem_singleton
def bI:=@Int.mul_nonneg
def bJ:=@Int.dvd_trans
def bK:=@Nat.lt_succ_of_lt
def bL:=@Option.some.inj
def bO:=@Nat.lt_succ_self
def bP:=@Int.emod_add_mul_ediv
def bQ:=@Nat.le_trans
def bR:=@Int.dvd_of_emod_eq_zero
def bS:=@Int.emod_eq_zero_of_dvd
def bT:=@Int.dvd_add
def bU:=@Nat.pow_le_pow_right
def bV:=@PySem.Heap.get?_push_size
def bX:=@PySem.wpAny_pure
def bY:=@List.take_length
def bZ:=@Int.toNat_of_nonneg
def b3:=@Int.mul_one
def b5:=@decide_eq_true
def b8:=@Int.ediv_le_self
def cf:=@Nat.lt_of_le_of_lt
def cm:=@List.getElem?_zipWith
def cq:=@List.length_set
def cx:=@List.getElem_mem
def cy:=@Nat.ne_of_lt
def cA:=@List.mem_append_left
def cB:=@List.size_toArray
def cC:=@Int.sub_self
def cD:=@Int.natAbs_natCast
def cF:=@PyProof.Rows.callWith_type1
def cG:=@List.getElem?_eq_none
def cH:=@List.replicate_succ
def cI:=@List.length_drop
def cJ:=@Nat.mul_le_mul_right
def cK:=@Int.ediv_nonneg
def cL:=@Int.mul_le_mul
def cM:=@Ne.symm
def cO:=@List.length_take
def cP:=@PySem.Heap.get?_update_other
def cQ:=@PySem.F.slot_list_append
def cR:=@PySem.F.type_list_append
def cS:=@Int.mul_sub
def cT:=@Int.sub_mul
def cU:=@congrArg
def cV:=@PySem.F.plainAttrs_list
def cW:=@Int.fmod_eq_emod_of_nonneg
def cX:=@Nat.zero_le
def cY:=@Int.one_mul
def cZ:=@Int.mul_ediv_cancel'
def c5:=@List.map_cons
def c7:=@Int.dvd_refl
def c9:=@PySem.wpAny_mono
def de:=@List.pairwise_iff_getElem
def df:=@List.take_add_one
def dh:=@Int.dvd_mul_right
def dj:=@Int.le_refl
def dr:=@Nat.mul_le_mul
def dC:=@Int.sub_zero
def dD:=@List.getElem?_append_right
def dE:=@Int.add_mul_emod_self_left
def dF:=@Int.add_zero
def dH:=@List.getElem?_range
def dI:=@List.getElem?_append_left
def dJ:=@List.length_singleton
def dL:=@List.all_eq_true
def dM:=@Nat.lt_irrefl
def dO:=@Int.zero_add
def dQ:=@Nat.pow_succ
def dR:=@List.mem_map
def dS:=@List.getElem?_cons_succ
def dU:=@decide_eq_false
def dW:=@Int.natCast_pow
def dX:=@List.length_zipWith
def dY:=@Nat.zero_add
def dZ:=@PySem.F.slot_int_bit_length
def ef:=@PySem.F.type_int_bit_length
def eC:=@False
def eD:=@List.mem_range
def eI:=@Int.fdiv_eq_ediv_of_nonneg
def eJ:=@Nat.le_of_lt
def eL:=@List.flatten_cons
def eM:=@Int.dvd_neg
def eO:=@Int.zero_emod
def eQ:=@Nat.Coprime.dvd_of_dvd_mul_left
def eR:=@Nat.mul_le_mul_left
def eT:=@Int.pow_add
def eU:=@Int.add_mul
def eV:=@List.getElem?_set_self
def eY:=@Int.pow_zero
def eZ:=@Int.sub_emod
def e8:=@List.mem_replicate
def e9:=@PySem.F.plainAttrs_int
def fe:=@Bool.eq_iff_iff
def fi:=@PySem.W.kia_one
def fj:=@List.nodup_cons
def fk:=@of_decide_eq_true
def fq:=@Int.add_mul_emod_self_right
def fv:=@PySem.wpAny_Call_Name_kw
def fD:=@List.getElem?_set_ne
def fE:=@PySem.wpAny_passesOwn
def fF:=@Array.getElem?_eq_some_iff
def fG:=@List.pairwise_append
def fH:=@Int.mul_add
def fI:=@Nat.pow_pos
def fJ:=@PySem.Paired.length
def fK:=@PySem.Heap.get?_update_self
def fL:=@Bool.and_eq_true
def fO:=@Nat.le_of_not_lt
def fQ:=@PySem.Obj.isFreed_of_fields
def fR:=@PySem.wpAny_truthy_bool
def fS:=@PySem.mem_of_lookup
def fT:=@List.mem_cons
def fU:=@List.append_nil
def fV:=@List.pairwise_cons
def fW:=@decide_eq_true_iff
def fX:=@List.getElem?_replicate
def fY:=@Int.mul_neg
def fZ:=@Nat.mul_pos
def f7:=@Int.pow_pos
def f9:=@Nat.mul_comm
def gf:=@Nat.min_self
def gg:=@PySem.wpAny_execs_nil
def gh:=@Int.dvd_mul_left
def gi:=@Bool.and_eq_true_iff
def gk:=@Prod.ext
def gn:=@Int.one_dvd
def gu:=@List.mem_of_mem_take
def gz:=@beq_eq_false_iff_ne
def gA:=@Int.ediv_mul_cancel
def gC:=@Int.zero_dvd
def gE:=@PySem.wpAny_holding
def gF:=@PySem.intBits_le_64
def gH:=@PySem.W.callWith_K
def gI:=@Int.dvd_natAbs
def gJ:=@List.map_singleton
def gK:=@Nat.eq_of_mul_eq_mul_left
def gL:=@Nat.le_succ
def gN:=@List.append_assoc
def gO:=@List.length_range
def gP:=@PySem.codeAny_mono
def gQ:=@List.any_cons
def gR:=@Nat.le_of_dvd
def gS:=@Nat.mul_assoc
def gU:=@PySem.Obj.data_mapFields
def gV:=@Option.bind_some
def gX:=@List.pairwise_singleton
def gY:=@beq_iff_eq
def gZ:=@Nat.succ_mul
def g3:=@Int.mul_emod
def g4:=@Nat.mod_lt
def g5:=@Int.ediv_eq_zero_of_lt
def g6:=@List.mem_append
def g7:=@Nat.div_add_mod
def g8:=@Int.mul_eq_zero
def g9:=@Int.ediv_lt_of_lt_mul
def hE:=@Nat.le_of_ble_eq_true
def hI:=@PySem.wpAny_execs_cons
def hV:=@Nat.div_lt_of_lt_mul
def hZ:=@Int.natAbs_neg
def h8:=@Nat.pow_add
def ia:=@List.mem_of_mem_drop
def ib:=@PySem.W.plainGet_of
def ic:=@PySem.W.shaped_ints
def ie:=@Nat.pow_le_pow_left
def ig:=@Int.mul_ediv_cancel
def ii:=@PySem.Heap.size_push
def io:=@Int.le_of_lt
def ip:=@List.ext_getElem?
def ir:=@PySem.wpAny_setField
def iu:=@PySem.wpAny_field
def iw:=@Nat.pow_zero
def ix:=@List.getElem_take
def iy:=@List.nodup_append
def iz:=@List.lookup_cons
def iA:=@Int.gcd_mul_left
def iB:=@Nat.mod_eq_of_lt
def iC:=@Nat.log2_lt
def iD:=@Nat.mul_one
def iE:=@List.eq_nil_of_length_eq_zero
def iF:=@Int.mul_pos
def iG:=@True
def iH:=@List.mem_filter
def iI:=@PySem.wpAny_call
def iJ:=@List.nil_append
def iK:=@Nat.min_eq_left
def iL:=@Int.natCast_add
def iM:=@Int.dvd_of_mul_dvd_mul_left
def iN:=@PySem.F.excBase_ValueError
def iO:=@congrFun
def iP:=@Nat.le_of_mul_le_mul_left
def iQ:=@List.drop_eq_getElem_cons
def iR:=@Option.isSome_iff_exists
def iS:=@List.getElem?_take_of_lt
def iT:=@List.all_cons
def iU:=@Nat.dvd_mul_left_of_dvd
def iV:=@PySem.Paired.snoc
def iW:=@Nat.ne_of_gt
def iX:=@Nat.le_of_eq
def iY:=@PySem.W.cellsFrom_some
def iZ:=@List.map_nil
def i4:=@List.take_of_length_le
def i5:=@List.map_map
def i6:=@PyProof.noPylong_small
def i7:=@Nat.lt_trans
def i8:=@List.drop_of_length_le
def i9:=@Nat.gcd_comm
def jc:=@Int.emod_def
def jd:=@Nat.succ_pos
def je:=@Nat.div_div_eq_div_mul
def jf:=@Nat.dvd_refl
def jg:=@Nat.sub_self
def jh:=@Int.add_mul_ediv_right
def jj:=@Int.add_mul_ediv_left
def jm:=@PySem.Calls.Name_function_global
def jo:=@PySem.W.looks_findIn
def jp:=@Nat.Coprime.pow_left
def jq:=@Int.neg_mul
def jr:=@Nat.add_mul_div_left
def js:=@Nat.mod_mod
def jt:=@List.replicate_succ'
def ju:=@Nat.pow_lt_pow_left
def jv:=@Array.append_assoc
def jw:=@PySem.wpAny_standAt
def jx:=@Int.natCast_nonneg
def jy:=@Int.ofNat_dvd_left
def jz:=@Int.mul_emod_right
def jA:=@PySem.W.kitx_list
def jB:=@PySem.W.kitx_dict
def jC:=@List.getElem?_set
def jD:=@Int.mul_left_comm
def jE:=@Int.emod_add_emod
def jF:=@PySem.wpAny_pyNext_range_end
def jG:=@PySem.wpAny_pyIter_rangeiter
def jH:=@PySem.seqIndex_neg
def jI:=@PySem.Calls.callWith_builtin
def jJ:=@PySem.W.Looks.ld
def jK:=@Nat.div_eq_of_lt
def jL:=@Nat.succ_lt_succ
def jM:=@Int.natCast_succ
def jO:=@Int.lt_of_not_ge
def jP:=@List.getElem_map
def jQ:=@List.drop_length
def jR:=@Option.getD_some
def jS:=@List.filter_cons
def jT:=@List.of_mem_zip
def jU:=@PySem.W.exm_cls
def jV:=@PySem.W.exm_one
def jW:=@List.range_succ
def jX:=@Int.dvd_coe_gcd
def jY:=@Int.mul_neg_one
def jZ:=@Option.map_some
def j4:=@PySem.IsRange.new
def j5:=@PySem.seqIndex_of
def j6:=@PySem.Calls.evalArgs_plain
def j7:=@PySem.F.excAttr_ValueError
def j8:=@Int.natAbs_pow
def j9:=@List.take_zero
namespace L2
theorem qK {α:Type}{a b:α}{l:List α}{n:Nat}:(a::l).set (n+1) b=a::l.set n b:=rfl
theorem qL {α:Type}{a b:α}{l:List α}:(a::l).set 0 b=b::l:=rfl
open PySem PySem.Spec PyProof.Rows
abbrev Key:=Sum Int Str
def Mc:Key->Value->Bool
 | .inl k,v=>Value.isInt k v
 | .inr x,v=>Value.isStrOf x v
def XD (w:World):Key->Int
 | .inl k=>hashInt k
 | .inr x=>hashStr w x
theorem m5:∀{k:Key}{v:Value},Mc k v=true->(∃i t,k=Sum.inl i/\v=Value.int i t)\/(∃x t,k=Sum.inr x/\v=Value.str x t)
 | .inl i,v,h=>by
  obtain⟨t,e⟩:=Value.isInt_shape (k:=i) (v:=v) h;exact .inl ⟨i,t,Z,e⟩
 | .inr x,v,h=>by
  obtain⟨t,e⟩:=Value.isStrOf_shape (x:=x) (v:=v) h;exact .inr ⟨x,t,Z,e⟩
theorem Nm (a b:Int):decide ((Sum.inl a:Key)=Sum.inl b)=(a == b):=by
 by_cases e:a=b
 .subst e;simp
 .have h:¬(Sum.inl a:Key)=Sum.inl b:=fun q=>e (Sum.inl.inj q);rw[dU h];exact(gz.mpr e).symm
theorem Oq (a b:Str):decide ((Sum.inr a:Key)=Sum.inr b)=decide (a=b):=by
 by_cases e:a=b
 .subst e;simp
 .have h:¬(Sum.inr a:Key)=Sum.inr b:=fun q=>e (Sum.inr.inj q);rw[dU h,dU e]
theorem NH (a:Int)(b:Str):decide ((Sum.inl a:Key)=Sum.inr b)=false:=dU (fun q=>nomatch q)
theorem NA (a:Str)(b:Int):decide ((Sum.inr a:Key)=Sum.inl b)=false:=dU (fun q=>nomatch q)
def EK (prog:Program)(w:World):PySem.KeyKind prog w Key where
 is:=Mc
 hash:=XD w
 inj:=fun v a b ha hb=>by
  rcases m5 ha with ⟨i,t,rfl,rfl⟩ | ⟨x,t,rfl,rfl⟩
  .rcases m5 hb with ⟨j,u,rfl,e⟩ | ⟨y,u,rfl,e⟩
   .injection e with e1 _;rw[e1]
   .exact nomatch e
  .rcases m5 hb with ⟨j,u,rfl,e⟩ | ⟨y,u,rfl,e⟩
   .exact nomatch e
   .injection e with e1 _;rw[e1]
 byValue:=fun k v h=>by
  rcases m5 h with ⟨i,t,rfl,rfl⟩ | ⟨x,t,rfl,rfl⟩<;>rfl
 pyHash:=fun hv h=>by
  rcases m5 hv with ⟨i,t,rfl,rfl⟩ | ⟨x,t,rfl,rfl⟩
  .exact wpAny_pyHash_int h
  .exact wpAny_pyHash_str h
 eqBool:=fun hu hv h=>by
  rcases m5 hu with ⟨i,t,rfl,rfl⟩ | ⟨x,t,rfl,rfl⟩
  .rcases m5 hv with ⟨j,u,rfl,rfl⟩ | ⟨y,u,rfl,rfl⟩
   .rw[Nm] at h;exact wpAny_eqBool_int h
   .rw[NH] at h;exact SeqAt.EqAt.int_str i t y u _ _ _ _ h
  .rcases m5 hv with ⟨j,u,rfl,rfl⟩ | ⟨y,u,rfl,rfl⟩
   .rw[NA] at h;exact SeqAt.EqAt.str_int x t j u _ _ _ _ h
   .rw[Oq] at h;exact wpAny_eqBool_str h
 «strs»:=fun k x t v h=>by
  rcases m5 h with ⟨i,u,rfl,e⟩ | ⟨y,u,rfl,e⟩
  .exact nomatch e
  .injection e with e1 _;subst e1;cases v<;>rfl
inductive V where
 | non | bl (b:Bool) | int (i:Int) | str (x:Str) | byt (b:Array UInt8) | flt (b:UInt64) | ref (a:Addr) | ty (n:String)
 deriving DecidableEq
def RelV:V->Value->Prop
 | .non,u=>u=Value.none
 | .bl b,u=>u=Value.bool b
 | .int i,u=>∃t,u=Value.int i t
 | .str x,u=>∃t,u=Value.str x t
 | .byt b,u=>∃t,u=Value.bytes b t
 | .flt b,u=>∃t,u=Value.float b t
 | .ref a,u=>u=Value.ref a
 | .ty n,u=>u=Value.type n
abbrev Vals:List V->List Value->Prop:=Paired RelV
theorem Vals.length {xs:List V}{us:List Value}(r:Vals xs us):xs.length=us.length:=fJ r
theorem Vals.get:∀{xs:List V}{us:List Value}{i:Nat}{x:V},Vals xs us->xs[i]?=some x->∃u,us[i]?=some u/\RelV x u
 | _,_,_,_,.nil,e=>by simp at e
 | _,_,0,_,.cons r _,e=>by simp at e;subst e;exact⟨_,Z,r⟩
 | _,_,i+1,x,.cons _ t,e=>by
  obtain⟨u,h1,h2⟩:=Vals.get (i:=i) (x:=x) t (by simpa using e);exact⟨u,by simpa using h1,h2⟩
theorem Vals.set {x:V}{u:Value}(r:RelV x u):∀{xs:List V}{us:List Value}(i:Nat),Vals xs us->Vals (xs.set i x) (us.set i u)
 | _,_,_,.nil=>.nil
 | _,_,0,.cons _ t=>.cons r t
 | _,_,i+1,.cons q t=>.cons q (Vals.set r i t)
theorem Vals.append:∀{xs ys:List V}{us ws:List Value},Vals xs us->Vals ys ws->Vals (xs++ys) (us++ws)
 | _,_,_,_,.nil,s=>s
 | _,_,_,_,.cons r t,s=>.cons r (Vals.append t s)
theorem Vals.take:∀{xs:List V}{us:List Value}(n:Nat),Vals xs us->Vals (xs.take n) (us.take n)
 | _,_,0,_=>.nil
 | _,_,_+1,.nil=>.nil
 | _,_,n+1,.cons r t=>.cons r (Vals.take n t)
theorem Vals.drop:∀{xs:List V}{us:List Value}(n:Nat),Vals xs us->Vals (xs.drop n) (us.drop n)
 | _,_,0,r=>r
 | _,_,_+1,.nil=>.nil
 | _,_,n+1,.cons _ t=>Vals.drop n t
def v8:Option V->Option Value->Prop
 | some v,some u=>RelV v u
 | none,none=>iG
 | _,_=>eC
def KV {κ:Type}:List (κ×V)->List (κ×Value)->Prop:=Paired fun (p:κ×V)(q:κ×Value)=>p.1=q.1/\RelV p.2 q.2
def kV:Key->V
 | .inl i=>.int i
 | .inr x=>.str x
inductive HO where
 /-- a list -/
 | lst (xs:List V)
 /-- a tuple (never changes) -/
 | tup (xs:List V)
 /-- a dict whose keys are ints and texts;one whose keys are tuples of ints and texts (the empty one is both) -/
 | dK (kvs:List (Key×V)) | dT (kvs:List (List Key×V))
 /-- a set of ints: â members,â size -/
 | set (S:Int->Bool)(n:Nat)
 /-- an instance of the class at C,â dict at dx,â attributes -/
 | ins (C dx:Addr)(fs:List (Str×V))
 /-- the dict of the instance at x -/
 | own (x:Addr)
 /-- the dict of an exception -/
 | xd (fs:List (Str×V))
 /-- a bound method,f of x -/
 | met (f x:Addr)
 /-- a range object lo,lo+1,.. below hi -/
 | AM (lo hi:Int)
 /-- a thing that is known to the object (the script;a dict while a loop walks it): read,never written while it is so -/
 | frz (o:Obj)(u:HO)
 /-- a code object's table -/
 | tbl (ps:Array Value)
 /-- any other thing,by what is true of â one object (a def of one's own: SetO a S n:=HO.ext fun h=>..) -/
 | ext (φ:Heap->Prop)
abbrev Hp:=Addr->Option HO
def upd (H:Hp)(a:Addr)(o:HO):Hp:=fun b=>if b=a then some o else H b
theorem ko {H:Hp}{a:Addr}{o:HO}:upd H a o a=some o:=by unfold upd;rw[if_pos Z]
theorem kO {H:Hp}{a b:Addr}{o:HO}(h:b≠a):upd H a o b=H b:=by unfold upd;rw[if_neg h]
theorem oB {H:Hp}{a b:Addr}{o u:HO}(h:H a=some o)(h':H b=some u)(d:o≠u):a≠b:=by
 intro e;subst e;rw[h] at h';exact d (bL h')
theorem kP {H:Hp}{a b:Addr}{o:HO}(h:H a=some o)(h':H b=none):a≠b:=by
 intro e;subst e;rw[h] at h';cases h'
section
variable (P:Program)(w:World)
def nE (H:Hp)(h:Heap)(a:Addr):HO->Prop
 | .lst xs=>xs.length<=sizeLine/\∃(â:List Value)(n:Nat),Vals xs â/\h.get? a=some { cls:=.type "list",data:=.seq â.toArray n }
 | .tup xs=>xs.length<=sizeLine/\∃â:List Value,Vals xs â/\IsTup h a â.toArray
 | .dK kvs=>kvs.length<=sizeLine/\(a == sysModules)=false/\∃vs,KV kvs vs/\h.DictOf (EK P w) a vs
 | .dT kvs=>kvs.length<=sizeLine/\(a == sysModules)=false/\∃xs:List (List Key×Addr×Value),
   Paired (fun (p:List Key×V)(q:List Key×Addr×Value)=>p.1=q.1/\H q.2.1=some (.tup (p.1.map kV))/\RelV p.2 q.2.2) kvs xs /\
   ∃o es ep,h.get? a=some o/\o.ExactDict/\o.data=.dict es ep/\es.toList=xs.map (entryOfKey (tupleKind (EK P w)))/\(xs.map (·.1)).Nodup
 | .set S n=>h.SetOf (intKind P w) a S n
 | .ins C dx fs=>H dx=some (.own a)/\fs.length<=1000/\dx≠a/\h.get? a=some (PySem.W.instObj C dx) /\
   ∃mA,h.Ns1 dx mA/\(∀f,v8 (fs.lookup f) (mA f))/\PySem.Within mA (fs.map (·.1))
 | .own _=>∃o,h.get? a=some o
 | .xd fs=>∃mA,h.Ns1 a mA/\∀f,v8 (fs.lookup f) (mA f)
 | .AM lo hi=>∃t u v,h.get? a=some { cls:=.type "range",data:=.fields #[.int lo t,.int hi u,.int 1 v] }
 | .frz o u=>h.get? a=some o/\nE H h a u
 | .tbl ps=>h.get? a=some { cls:=.none,data:=.fields ps }
 | .met f x=>h.get? a=some (PySem.W.methodObj (.ref f) (.ref x))
 | .ext φ=>φ h/\(∃o,h.get? a=some o)/\∀h1 h2:Heap,φ h1->(∀o,h1.get? a=some o->h2.get? a=some o)->φ h2
def vh (H:Hp)(h:Heap):Prop:=∀a o,H a=some o->nE P w H h a o
end
section
variable {P:Program}{w:World}{H H':Hp}{h h':Heap}{a:Addr}{o:HO}
theorem nE.lt (x:nE P w H h a o):a<h.objs.size:=by
 cases o with
 | lst xs=>obtain⟨_,_,_,_,e⟩:=x;exact Heap.lt_size e
 | tup xs=>obtain⟨_,_,_,p⟩:=x;exact p.lt
 | dK kvs=>obtain⟨_,_,_,_,o,_,_,e,_⟩:=x;exact Heap.lt_size e
 | dT kvs=>obtain⟨_,_,_,_,o,_,_,e,_⟩:=x;exact Heap.lt_size e
 | set S n=>obtain⟨o,_,_,_,e,_⟩:=x;exact Heap.lt_size e
 | ins C dx fs=>obtain⟨_,_,_,e,_⟩:=x;exact Heap.lt_size e
 | own y=>obtain⟨_,e⟩:=x;exact Heap.lt_size e
 | xd fs=>obtain⟨_,⟨_,_,_,e,_⟩,_⟩:=x;exact Heap.lt_size e
 | AM lo hi=>obtain⟨_,_,_,e⟩:=x;exact Heap.lt_size e
 | frz ob u=>obtain⟨e,_⟩:=x;exact Heap.lt_size e
 | tbl ps=>exact bB (show h.get? a=some _ from x)
 | met f y=>exact bB (show h.get? a=some _ from x)
 | ext φ=>obtain⟨_,⟨_,e⟩,_⟩:=x;exact Heap.lt_size e
theorem Paired.yp {α β:Type}{F G:α->β->Prop}:∀{Jr:List α}{Js:List β},Paired F Jr Js->(∀a b,F a b->G a b)->Paired G Jr Js
 | _,_,.nil,_=>.nil
 | _,_,.cons r t,f=>.cons (f _ _ r) (Paired.yp t f)
theorem nE.yB (x:nE P w H h a o)(k:∀b u,(b=a\/H b=some (.own a))->h.get? b=some u->h'.get? b=some u)
  (ho:∀b,H b=some (.own a)->H' b=some (.own a))(ht:∀b xs,H b=some (.tup xs)->H' b=some (.tup xs)):nE P w H' h' a o:=by
 induction o with
 | lst xs=>obtain⟨z,â,n,r,e⟩:=x;exact⟨z,â,n,r,k _ _ (.inl rfl) e⟩
 | tup xs=>obtain⟨z,â,r,ob,e,c⟩:=x;exact⟨z,â,r,ob,k _ _ (.inl rfl) e,c⟩
 | dK kvs=>obtain⟨z,y,vs,r,ob,es,ep,e,c⟩:=x;exact⟨z,y,vs,r,ob,es,ep,k _ _ (.inl rfl) e,c⟩
 | dT kvs =>
  obtain⟨z,y,xs,r,ob,es,ep,e,c⟩:=x;exact⟨z,y,xs,Paired.yp r fun p q z=>⟨z.1,ht _ _ z.2.1,z.2.2⟩,ob,es,ep,k _ _ (.inl Z) e,c⟩
 | set S n=>obtain⟨ob,es,ep,t,e,c⟩:=x;exact⟨ob,es,ep,t,k _ _ (.inl rfl) e,c⟩
 | ins C dx fs =>
  obtain⟨d,z,ne,e,mA,⟨od,es,ep,e2,c⟩,r⟩:=x;exact⟨ho _ d,z,ne,k _ _ (.inl Z) e,mA,⟨od,es,ep,k _ _ (.inr d) e2,c⟩,r⟩
 | own y=>obtain⟨ob,e⟩:=x;exact⟨ob,k _ _ (.inl rfl) e⟩
 | xd fs=>obtain⟨mA,⟨od,es,ep,e,c⟩,r⟩:=x;exact⟨mA,⟨od,es,ep,k _ _ (.inl rfl) e,c⟩,r⟩
 | AM lo hi=>obtain⟨t,u,v,e⟩:=x;exact⟨t,u,v,k _ _ (.inl rfl) e⟩
 | frz ob u ih=>obtain⟨e,q⟩:=x;exact⟨k _ _ (.inl rfl) e,ih q⟩
 | tbl ps =>
  have e:h.get? a=some { cls:=.none,data:=.fields ps }:=x;show h'.get? a=some { cls:=.none,data:=.fields ps }
  exact k a _ (.inl Z) e
 | met f y =>
  have e:h.get? a=some (PySem.W.methodObj (.ref f) (.ref y)):=x;show h'.get? a=some (PySem.W.methodObj (.ref f) (.ref y))
  exact k a _ (.inl Z) e
 | ext φ=>obtain⟨p,⟨o,e⟩,st⟩:=x;exact⟨st _ _ p fun o q=>k _ _ (.inl rfl) q,⟨o,k _ _ (.inl rfl) e⟩,st⟩
theorem vh.lt (x:vh P w H h)(e:H a=some o):a<h.objs.size:=(x a o e).lt
theorem vh.fresh (x:vh P w H h)(e:h.objs.size<=a):H a=none:=by
 cases q:H a with
 | none=>rfl
 | some u=>exact absurd (bj (x.lt q) e) (dM _)
theorem vh.kept (x:vh P w H h)(k:∀b u,h.get? b=some u->h'.get? b=some u):vh P w H h':=fun a o e =>
 (x a o e).yB (fun b u _ q=>k b u q) (fun _ q=>q) fun _ _ q=>q
theorem vh.laid (x:vh P w H h)(k:∀b u,h.get? b=some u->h'.get? b=some u)(hp:h.objs.size<=a)(new:nE P w (upd H a o) h' a o):vh P w (upd H a o) h':=fun b u e=>by
 have hn:=x.fresh hp
 by_cases hb:b=a
 .subst hb;rw[ko] at e;cases e;exact new
 .rw[kO hb] at e;exact(x b u e).yB (fun c v _ q=>k c v q) (fun c q=>by rw[kO (kP q hn)];exact q) fun c xs q=>by rw[kO (kP q hn)];exact q
end
def Rd (H:Hp)(a:Addr)(u:HO):Prop:=H a=some u\/∃o,H a=some (.frz o u)
theorem Rd.of {H:Hp}{a:Addr}{u:HO}(h:H a=some u):Rd H a u:=.inl h
theorem Rd.ok {P:Program}{w:World}{H:Hp}{h:Heap}{a:Addr}{u:HO}(r:Rd H a u)(x:vh P w H h):nE P w H h a u:=by
 rcases r with r | ⟨o,r⟩
 .exact x a u r
 .obtain⟨_,q⟩:=x a _ r;exact q
def Tw:Option HO->Prop
 | some (.lst _)=>iG
 | some (.dK _)=>iG
 | some (.dT _)=>iG
 | some (.set _ _)=>iG
 | some (.ins _ _ _)=>iG
 | some (.ext _)=>iG
 | _=>eC
section
variable {P:Program}{w:World}{H:Hp}{h h':Heap}{x e:Addr}{o':HO}
theorem vh.write (ok:vh P w H h)(mu:Tw (H x))(he:e=x\/H e=some (.own x))(k:∀b u,b≠e->h.get? b=some u->h'.get? b=some u)(Pj:∃u,h'.get? e=some u)
  (new:nE P w (upd H x o') h' x o'):vh P w (upd H x o') h':=fun b u q=>by
 have RP:∀c y,H c=some (.own y)->c≠x:=fun c y r z=>by subst z;rw[r] at mu;exact mu
 have XV:∀c xs,H c=some (.tup xs)->c≠x:=fun c xs r z=>by subst z;rw[r] at mu;exact mu
 by_cases hb:b=x
 .subst hb;rw[ko] at q;cases q;exact new
 .rw[kO hb] at q
  by_cases Ow:b=e
  .have q':H b=some (.own x):=by
    rcases he with z | z
    .exact absurd (Ow.trans z) hb
    .rw[Ow];exact z
   rw[q] at q';cases q';obtain⟨v,hv⟩:=Pj;exact⟨v,by rw[Ow];exact hv⟩
  .refine(ok b u q).yB (fun c v hc r=>k c v ?_ r) (fun c r=>by rw[kO (RP c b r)];exact r) fun c xs r=>by rw[kO (XV c xs r)];exact r
   rcases hc with rfl | hc
   .exact Ow
   .rintro rfl;rcases he with z | z
    .exact RP c b hc z
    .rw[hc] at z;cases z;exact hb Z
end
structure Un (fs ex:List Addr)(H H':Hp)(h h':Heap):Prop where
 keep:∀b o,h.get? b=some o->H b=none->b∉fs->b∉ex->h'.get? b=some o
 slot:∀b o,h.get? b=some o->H b=none->b∈fs->b∉ex->∃sl,h'.get? b=some { o with slots:=sl }
 free:∀b o,h.get? b=some o->H b=none->b∉ex->H' b=none
 there:∀b o,h.get? b=some o->b∉ex->∃o',h'.get? b=some o'
 tups:∀b xs,H b=some (.tup xs)->H' b=some (.tup xs)
 frzs:∀b o u,H b=some (.frz o u)->H' b=some (.frz o u)
 tbls:∀b ps,H b=some (.tbl ps)->∃more,H' b=some (.tbl (ps++more))
section
variable {fs AO ex Z9:List Addr}{H H1 H2:Hp}{h h1 h2 h':Heap}{a x e:Addr}{o:HO}
theorem Un.any (u:Un fs ex H H1 h h1){b:Addr}{ob:Obj}(q:h.get? b=some ob)(n:H b=none)(hx:b∉ex):∃sl,h1.get? b=some { ob with slots:=sl }:=by
 by_cases hb:b∈fs
 .exact u.slot b ob q n hb hx
 .exact⟨ob.slots,u.keep b ob q n hb hx⟩
theorem Un.trans (a:Un fs ex H H1 h h1)(b:Un fs ex H1 H2 h1 h2):Un fs ex H H2 h h2 where
 keep:=fun c ob q n hc hx=>b.keep c ob (a.keep c ob q n hc hx) (a.free c ob q n hx) hc hx
 slot:=fun c ob q n hc hx=>by
  obtain⟨sl,e1⟩:=a.slot c ob q n hc hx;obtain⟨Ox,e2⟩:=b.slot c _ e1 (a.free c ob q n hx) hc hx;exact⟨Ox,e2⟩
 free:=fun c ob q n hx=>by
  obtain⟨o',e1⟩:=a.there c ob q hx;exact b.free c o' e1 (a.free c ob q n hx) hx
 there:=fun c ob q hx=>by
  obtain⟨o',e1⟩:=a.there c ob q hx;exact b.there c o' e1 hx
 tups:=fun c xs q=>b.tups c xs (a.tups c xs q)
 frzs:=fun c ob xs q=>b.frzs c ob xs (a.frzs c ob xs q)
 tbls:=fun c ps q=>by
  obtain⟨m1,e1⟩:=a.tbls c ps q;obtain⟨m2,e2⟩:=b.tbls c _ e1;exact⟨m1++m2,by rw[e2,jv]⟩
theorem Un.kept (k:∀b u,h.get? b=some u->h'.get? b=some u):Un fs ex H H h h' :=
 ⟨fun b ob q _ _ _=>k b ob q,fun b ob q _ _ _=>⟨ob.slots,k b ob q⟩,fun _ _ _ n _=>n,fun b ob q _=>⟨ob,k b ob q⟩,fun _ _ q=>q,fun _ _ _ q=>q,fun _ ps q=>⟨#[],by rw[q];simp⟩⟩
theorem Un.refl:Un fs ex H H h h:=Un.kept fun _ _ q=>q
theorem Un.laid (k:∀b u,h.get? b=some u->h'.get? b=some u)(hp:h.objs.size<=a)(hn:H a=none):Un fs ex H (upd H a o) h h' where
 keep:=fun b u q _ _ _=>k b u q
 slot:=fun b u q _ _ _=>⟨u.slots,k b u q⟩
 free:=fun b u q n _=>by rw[kO (cy (bj (bB q) hp))];exact n
 there:=fun b u q _=>⟨u,k b u q⟩
 tups:=fun b xs q=>by rw[kO (kP q hn)];exact q
 frzs:=fun b u xs q=>by rw[kO (kP q hn)];exact q
 tbls:=fun b ps q=>⟨#[],by rw[kO (kP q hn),q];simp⟩
theorem Un.write (mu:Tw (H x))(he:e=x\/H e=some (.own x))(k:∀b u,b≠e->h.get? b=some u->h'.get? b=some u)(Pj:∃u,h'.get? e=some u):Un fs ex H (upd H x o) h h':=by
 have hx:∀b,H b=none->b≠x:=fun b n z=>by subst z;rw[n] at mu;exact mu
 have hb:∀b,H b=none->b≠e:=fun b n z=>by
  subst z;rcases he with r | r
  .exact hx b n r
  .rw[n] at r;cases r
 have hm:∀b u,H b=some u->¬Tw (some u)->b≠x:=fun b u q nm z=>by subst z;rw[q] at mu;exact nm mu
 refine⟨fun b u q n _ _=>k b u (hb b n) q,fun b u q n _ _=>⟨u.slots,k b u (hb b n) q⟩,fun b u q n _=>by rw[kO (hx b n)];exact n,fun b u q _=>?_,
  fun b xs q=>by rw[kO (hm b _ q fun z=>z)];exact q,fun b u xs q=>by rw[kO (hm b _ q fun z=>z)];exact q,fun b ps q=>⟨#[],by rw[kO (hm b _ q fun z=>z),q];simp⟩⟩
 by_cases Ow:b=e
 .subst Ow;exact Pj
 .exact⟨u,k b u Ow q⟩
theorem Un.mono (u:Un fs ex H H1 h h1)(hs:∀b∈fs,b∈AO)(hx:∀b∈ex,b∈Z9):Un AO Z9 H H1 h h1 :=
 ⟨fun b ob q n hb he=>u.keep b ob q n (fun z=>hb (hs b z)) fun z=>he (hx b z),fun _ _ q n _ he=>u.any q n fun z=>he (hx _ z),fun b ob q n he=>u.free b ob q n fun z=>he (hx b z),fun b ob q he=>u.there b ob q fun z=>he (hx b z),u.tups,u.frzs,u.tbls⟩
end
def TF (h:Heap)(H:Hp):List Addr:=(List.range h.objs.size).filter fun a=>(H a).isSome
def Az (h:Heap)(H:Hp):Heap:=PySem.W.hideAll h (TF h H)
theorem Gh (h:Heap)(H:Hp):(Az h H).objs.size=h.objs.size:=PySem.W.hideAll_size _ _
theorem IZ {h:Heap}{H:Hp}{b:Addr}{o:Obj}(e:h.get? b=some o)(n:H b=none):(Az h H).get? b=some o :=
 PySem.W.hideAll_get _ e fun hm=>by
  have q:(H b).isSome=true:=(iH.mp hm).2;rw[n] at q;simp at q
theorem K2 {h:Heap}{H:Hp}{b:Addr}{o:Obj}(e:(Az h H).get? b=some o):h.get? b=some o/\H b=none:=by
 have e':h.get? b=some o:=PySem.W.of_hideAll (TF h H) e;refine⟨e',?_⟩;cases q:H b with
 | none=>rfl
 | some x =>
  have hm:b∈TF h H:=iH.mpr ⟨eD.mpr (bB e'),by simp[q]⟩;have z:(Az h H).get? b=none:=PySem.W.hideAll_none (TF h H) hm;rw[z] at e;cases e
def K6 (g h:Heap)(L:Addr):List (Addr×Obj):=(List.range h.objs.size).filterMap fun a=>if a=L\/(g.get? a).isSome=true then none else (h.get? a).map fun o=>(a,o)
def rest (g h:Heap)(L d:Addr):List (Addr×Obj):=(K6 g h L).filter fun p=>decide (p.1≠d)
structure Mod (K:zdg)(mg:Str->Option Value)(base:Heap):Prop where
 kin:K.In base
 glob:base.Ns mainGlobals mg
 blt:∃mb,base.Ns builtinsNs mb/\∀x:Str,x≠"__name__"->mb x=bootBuiltins x
 nolimit:base.NoLimit
structure Cx where
 prog:Program
 w:World
 K:zdg
 mg:Str->Option Value
 base:Heap
 A:Around
 N:List Str
 s₀:Shared
 H₀:Hp
 env:Env
 outer:List Env
 stack:List Env
 ex:List Addr
 fn:Str->Bool
 calm:Bool
 pn:List (Addr×Obj)
 xe:Value->Shared->Prop
def ye (l:List Env):List Addr:=l.filterMap (·.frame)
abbrev Cx.fs (X:Cx):List Addr:=ye X.outer
def Tx (sc:Scope)(x:Str):Prop:=sc.names.lookup x=some .local\/sc.names.lookup x=some .cell\/sc.names.lookup x=some .free
def Loc (sc:Scope)(x:Str):Prop:=sc.names.lookup x=some .local\/sc.names.lookup x=some .cell
def Look (env:Env)(h:Heap)(m:Str->Option Value)(x:Str)(u:Value):Prop :=
 (env.kindOf x=some .local/\m x=some u)\/((env.kindOf x=some .cell\/env.kindOf x=some .free)/\∃c,env.cells.lookup x=some c/\h.IsCell c (some u))
structure Cx.Ok (X:Cx):Prop where
 mod:Mod X.K X.mg X.base
 kind:X.env.scope.kind=.function
 glob:X.env.globals=mainGlobals
 blt:X.env.builtins=builtinsNs
 above:X.s₀.heap.objs.size<=X.env.locals
 inj:∀x y c,X.env.cells.lookup x=some c->X.env.cells.lookup y=some c->x=y
 has:∀x,(X.env.kindOf x=some .cell\/X.env.kindOf x=some .free)->∃c,X.env.cells.lookup x=some c
 cab:∀x c,X.fn x=true->X.env.cells.lookup x=some c->X.s₀.heap.objs.size<=c
 hd:X.calm=true->X.A.handled=none
 frames:X.A.frames=some X.stack
 stk:X.stack=X.outer\/(X.stack=X.env::X.outer/\X.env.frame=some X.env.locals)
 exf:∀b∈X.ex,b≠X.env.locals/\∀x c,X.env.cells.lookup x=some c->c≠b
 bs:∀b o,X.base.get? b=some o->X.s₀.heap.get? b=some o/\X.H₀ b=none
 bsz:X.base.objs.size<=X.s₀.heap.objs.size
 noex:∀b o,X.base.get? b=some o->b∉X.ex
 exfs:∀b∈X.ex,b∉X.fs
 t8:X.s₀.heap.FunFrames X.base X.outer
 frf:∀b∈X.fs,X.H₀ b=none
structure Inv (X:Cx)(ä:List (Addr×Obj))(σ:List (Option V))(H:Hp)(s:Shared):Prop where
 ok:X.Ok
 os:s.os=X.s₀.os
 bare:AllBare s.gens
 base:Un X.fs X.ex X.H₀ H X.s₀.heap s.heap
 loc:∃m,s.heap.Ns X.env.locals m/\∀(i:Nat)(x:Str)(v:V),X.N[i]?=some x->σ[i]?=some (some v)->Tx X.env.scope x->∃u,RelV v u/\Look X.env s.heap m x u
 cell:∀x c,X.env.cells.lookup x=some c->∃v,s.heap.IsCell c v
 free:H X.env.locals=none
 freeC:∀x c,X.env.cells.lookup x=some c->H c=none
 pin:∀p∈X.pn++ä,s.heap.get? p.1=some p.2/\H p.1=none/\p.1≠X.env.locals/\p.1∉X.fs/\∀v,p.2.data≠.cell v
 hok:vh X.prog X.w H s.heap
 len:σ.length=X.N.length
section
variable {g':Array GenState}{t':Nat}{ch:List Addr}{E:Value->Shared->Prop}{Q:Unit->Shared->Prop}
variable {X:Cx}{ä:List (Addr×Obj)}{σ:List (Option V)}{H H':Hp}{s:Shared}{h':Heap}
theorem Cx.Ok.XR (ok:X.Ok){b:Addr}{o:Obj}(e:X.base.get? b=some o):b∉X.fs:=fun hb=>by
 have:=(ok.t8.mem hb).1;rw[e] at this;cases this
theorem Inv.bs (I:Inv X ä σ H s):∀b o,X.base.get? b=some o->s.heap.get? b=some o/\H b=none:=fun b o e =>
 ⟨I.base.keep b o (I.ok.bs b o e).1 (I.ok.bs b o e).2 (I.ok.XR e) (I.ok.noex b o e),I.base.free b o (I.ok.bs b o e).1 (I.ok.bs b o e).2 (I.ok.noex b o e)⟩
theorem Inv.bk (I:Inv X ä σ H s):∀b o,X.base.get? b=some o->s.heap.get? b=some o:=fun b o e=>(I.bs b o e).1
theorem Inv.mod (I:Inv X ä σ H s):Mod X.K X.mg X.base:=I.ok.mod
theorem Inv.t5 (I:Inv X ä σ H s):X.K.In s.heap:=I.ok.mod.kin.keeps I.bk
theorem Inv.fr (I:Inv X ä σ H s):∃m,Fr X.base X.env.locals s.heap m :=
 let ⟨m,hn,_⟩:=I.loc
 ⟨m,hn,I.bk,bQ I.ok.bsz I.ok.above⟩
theorem Inv.lt (I:Inv X ä σ H s):X.env.locals<s.heap.objs.size:=let ⟨_,hn,_⟩:=I.loc;hn.lt
theorem Inv.sz (I:Inv X ä σ H s):X.s₀.heap.objs.size<=s.heap.objs.size:=bQ I.ok.above (eJ I.lt)
theorem Inv.Il (I:Inv X ä σ H s){a:Addr}(h:s.heap.objs.size<=a):a∉X.fs:=fun hb=>by
 obtain⟨_,o,ho,_⟩:=I.ok.t8.mem hb;exact absurd (bj (bB ho) (bQ I.sz h)) (dM _)
theorem Inv.Lw (I:Inv X ä σ H s):∀x c,X.env.cells.lookup x=some c->c≠X.env.locals:=fun x c e z=>by
 obtain⟨v,o,ho,hd⟩:=I.cell x c e;obtain⟨m,⟨o',es,ep,E3,Pk,_⟩,_⟩:=I.loc;rw[z,E3] at ho;cases ho;rw[Pk] at hd;cases hd
theorem Inv.t8 (I:Inv X ä σ H s):s.heap.FunFrames X.base X.outer:=by
 have all:∀(l:List Env),(∀b∈ye l,b∈X.fs)->X.s₀.heap.FunFrames X.base l->s.heap.FunFrames X.base l:=by
  intro l
  induction l with
  | nil=>intro _ _;trivial
  | cons env r ih =>
   intro hs hl;obtain⟨hk,⟨L,o,hf,hn,ho,hd⟩,hr⟩:=hl;have hL:L∈X.fs:=hs L (by unfold ye;rw[List.filterMap_cons,hf];exact List.mem_cons_self);obtain⟨sl,e⟩:=I.base.slot L o ho (I.ok.frf L hL) hL fun z=>I.ok.exfs L z hL;exact⟨hk,⟨L,_,hf,hn,e,hd⟩,ih (fun b hb=>hs b (by unfold ye;rw[List.filterMap_cons,hf];exact List.mem_cons_of_mem _ hb)) hr⟩
 exact all X.outer (fun _ hb=>hb) I.ok.t8
theorem Inv.stack (I:Inv X ä σ H s):s.heap.FunFrames X.base X.stack:=by
 rcases I.ok.stk with e | ⟨e,hf⟩
 .rw[e];exact I.t8
 .rw[e];obtain⟨m,hn,_⟩:=I.loc;refine .cons (by rw[I.ok.kind];decide) hf hn ?_ I.t8;exact Heap.get?_none_of_le (bQ I.ok.bsz I.ok.above)
theorem Inv.uU (I:Inv X ä σ H s):∀b∈ye X.stack,b∈X.env.locals::X.fs:=fun b hb=>by
 rcases I.ok.stk with e | ⟨e,hf⟩
 .rw[e] at hb;exact ar _ hb
 .rw[e] at hb;unfold ye at hb;rw[List.filterMap_cons,hf] at hb;exact hb
theorem Inv.Ac (I:Inv X ä σ H s):∀b∈ye X.stack,H b=none:=fun b hb=>by
 rcases List.mem_cons.mp (I.uU b hb) with e | hb
 .rw[e];exact I.free
 .obtain⟨_,o,ho,_⟩:=I.ok.t8.mem hb;exact I.base.free b o ho (I.ok.frf b hb) fun z=>I.ok.exfs b z hb
theorem Inv.step {d':Drawn}(I:Inv X ä σ H s)
 (AQ:∀b∈ch,(b∈X.ex\/X.s₀.heap.objs.size<=b)/\b≠X.env.locals/\(∀x c,X.env.cells.lookup x=some c->c≠b)/\∀p∈X.pn++ä,p.1≠b)
 (keep:∀b o,b≠X.env.locals->b∉X.fs->b∉ch->s.heap.get? b=some o->H b=none->h'.get? b=some o)
 (slot:∀b o,b≠X.env.locals->b∈X.fs->b∉ch->s.heap.get? b=some o->H b=none->∃sl,h'.get? b=some { o with slots:=sl })(free:∀b o,b∉ch->s.heap.get? b=some o->H b=none->H' b=none)
 (there:∀b o,b∉ch->s.heap.get? b=some o->∃o',h'.get? b=some o')
 (tups:∀b xs,H b=some (.tup xs)->H' b=some (.tup xs))(frzs:∀b o u,H b=some (.frz o u)->H' b=some (.frz o u))(tbls:∀b ps,H b=some (.tbl ps)->∃more,H' b=some (.tbl (ps++more)))
 (ns:∀m,s.heap.Ns X.env.locals m->h'.Ns X.env.locals m)(hok:vh X.prog X.w H' h')(hg:AllBare g') :
    Inv X ä σ H' { s with heap:=h',gens:=g',drawn:=d',toks:=t' }:=by
  have TN:∀b o,X.s₀.heap.get? b=some o->b≠X.env.locals:=fun b o e=>cy (bj (bB e) I.ok.above);have TQ:∀b o,X.s₀.heap.get? b=some o->b∉X.ex->b∉ch:=fun b o e hx hb=>by
    rcases (AQ b hb).1 with z | z
    · exact hx z
    · exact absurd (bj (bB e) z) (dM _)
  have cellK:∀x c,X.env.cells.lookup x=some c->∀v,s.heap.IsCell c v->h'.IsCell c v:=fun x c e v ⟨o,ho,hd⟩=>by
    have RQ:c∉ch:=fun z=>(AQ c z).2.2.1 x c e Z
    by_cases hc:c∈X.fs
    · obtain⟨sl,q⟩:=slot c o (I.Lw x c e) hc RQ ho (I.freeC x c e)
      exact⟨_,q,hd⟩
    · exact⟨o,keep c o (I.Lw x c e) hc RQ ho (I.freeC x c e),hd⟩
  refine⟨I.ok,I.os,hg,⟨fun b o e n hb hx=>?_,fun b o e n hb hx=>?_,fun b o e n hx=>?_,fun b o e hx=>?_,fun b xs e=>tups b xs (I.base.tups b xs e),fun b o xs e=>frzs b o xs (I.base.frzs b o xs e),fun b ps e=>?_⟩,?_,fun x c e=>?_,?_,fun x c e=>?_,fun p hp=>?_,hok,I.len⟩
  · exact keep b o (TN b o e) hb (TQ b o e hx) (I.base.keep b o e n hb hx) (I.base.free b o e n hx)
  · obtain⟨sl,e1⟩:=I.base.slot b o e n hb hx
    obtain⟨Ox,e2⟩:=slot b _ (TN b o e) hb (TQ b o e hx) e1 (I.base.free b o e n hx);exact⟨Ox,e2⟩
  · obtain⟨o',e1⟩:=I.base.there b o e hx
    exact free b o' (TQ b o e hx) e1 (I.base.free b o e n hx)
  · obtain⟨o',e1⟩:=I.base.there b o e hx
    exact there b o' (TQ b o e hx) e1
  · obtain⟨m1,e1⟩:=I.base.tbls b ps e
    obtain⟨m2,e2⟩:=tbls b _ e1;exact⟨m1++m2,by rw[e2,jv]⟩
  · obtain⟨m,hn,hl⟩:=I.loc
    refine⟨m,ns m hn,fun i x v e1 e2 e3=>?_⟩;obtain⟨u,r,l⟩:=hl i x v e1 e2 e3;refine⟨u,r,?_⟩;rcases l with l | ⟨k,c,e,z⟩
    · exact .inl l
    · exact .inr ⟨k,c,e,cellK x c e _ z⟩
  · obtain⟨v,z⟩:=I.cell x c e
    exact⟨v,cellK x c e v z⟩
  · obtain⟨m,⟨o,_,_,ho,_⟩,_⟩:=I.loc
    exact free _ o (fun z=>(AQ _ z).2.1 Z) ho I.free
  · obtain⟨v,o,ho,hd⟩:=I.cell x c e
    exact free c o (fun z=>(AQ c z).2.2.1 x c e Z) ho (I.freeC x c e)
  · obtain⟨e,n,ne,nf,d⟩:=I.pin p hp
    have RQ:p.1∉ch:=fun z=>(AQ p.1 z).2.2.2 p hp Z;exact⟨keep p.1 p.2 ne nf RQ e n,free p.1 p.2 RQ e n,ne,nf,d⟩
theorem Inv.un (I:Inv X ä σ H s)(u:Un X.fs [] H H' s.heap h')(hok:vh X.prog X.w H' h'):Inv X ä σ H' { s with heap:=h',toks:=t' }:=by
 obtain⟨m,⟨o,es,ep,ho,r⟩,_⟩:=id I.loc;obtain⟨sl,hL⟩:=u.any ho I.free ke;exact I.step (g':=s.gens) (d':=s.drawn) (ch:=[]) (fun _ z=>nomatch z) (fun b o _ hb _ e n=>u.keep b o e n hb ke) (fun b o _ hb _ e n=>u.slot b o e n hb ke) (fun b o _ e n=>u.free b o e n ke) (fun b o _ e=>u.there b o e ke) u.tups u.frzs u.tbls (fun m' hm=>by
  obtain⟨o',XW,XX,E3,r'⟩:=hm;rw[ho] at E3;cases E3;exact⟨_,XW,XX,hL,r'⟩) hok I.bare
theorem Inv.call {d':Drawn}(I:Inv X ä σ H s)(u:Un (ye X.stack) ch H H' s.heap h')(hok:vh X.prog X.w H' h')(hg:AllBare g')
 (AQ:∀b∈ch,(b∈X.ex\/X.s₀.heap.objs.size<=b)/\b≠X.env.locals/\(∀x c,X.env.cells.lookup x=some c->c≠b)/\∀p∈X.pn++ä,p.1≠b) :
    Inv X ä σ H' { s with heap:=h',gens:=g',drawn:=d',toks:=t' }:=by
  obtain⟨m,⟨o,es,ep,ho,r⟩,_⟩:=id I.loc;obtain⟨sl,hL⟩:=u.any ho I.free fun z=>(AQ _ z).2.1 Z;exact I.step (ch:=ch) AQ (fun b o hL hb hc e n=>u.keep b o e n (fun z=>(fT.mp (I.uU b z)).elim hL hb) hc) (fun b o _ _ hc e n=>u.any e n hc) (fun b o hc e n=>u.free b o e n hc) (fun b o hc e=>u.there b o e hc) u.tups u.frzs u.tbls (fun m' hm=>by
    obtain⟨o',XW,XX,E3,r'⟩:=hm;rw[ho] at E3;cases E3;exact⟨_,XW,XX,hL,r'⟩) hok hg
theorem Inv.turned {it:Addr}(I:Inv X ä σ H s)(k:∀b o,b≠it->s.heap.get? b=some o->h'.get? b=some o)(hn:H it=none)(hL:it≠X.env.locals)
 (h1:it∈X.ex\/X.s₀.heap.objs.size<=it)(h2:∀x c,X.env.cells.lookup x=some c->c≠it)(h3:∀p∈X.pn++ä,p.1≠it):Inv X ä σ H { s with heap:=h',toks:=t' }:=by
  have RR:∀b u,H b=some u->b≠it:=fun b u e z=>by rw[z,hn] at e;cases e
  refine I.step (g':=s.gens) (d':=s.drawn) (ch:=[it]) (fun b hb=>?_) (fun b o _ _ hc e _=>k b o (fun z=>hc (by simp[z])) e) (fun b o _ _ hc e _=>⟨o.slots,k b o (fun z=>hc (by simp[z])) e⟩) (fun _ _ _ _ n=>n)
    (fun b o hc e=>⟨o,k b o (fun z=>hc (by simp[z])) e⟩) (fun _ _ e=>e) (fun _ _ _ e=>e) (fun b ps e=>⟨#[],by rw[e];simp⟩) (fun m hm=>?_) (fun b u e=>?_) I.bare
  · have e:b=it:=by simpa using hb
    subst e;exact⟨h1,hL,h2,h3⟩
  · obtain⟨o,es,ep,ho,r⟩:=hm
    exact⟨o,es,ep,k _ o (cM hL) ho,r⟩
  · refine(I.hok b u e).yB (fun c v hc q=>k c v ?_ q) (fun _ q=>q) fun _ _ q=>q
    rcases hc with z | z
    · rw[z];exact RR b u e
    · exact RR c _ z
theorem Inv.tok (I:Inv X ä σ H s)(t:Nat):Inv X ä σ H { s with toks:=t }:=I.un (h':=s.heap) (t':=t) Un.refl I.hok
theorem Inv.kept {t':Nat}(I:Inv X ä σ H s)(k:∀b u,s.heap.get? b=some u->h'.get? b=some u):Inv X ä σ H { s with heap:=h',toks:=t' }:=I.un (Un.kept k) (I.hok.kept k)
theorem Inv.laid {a:Addr}{o:HO}{t':Nat}(I:Inv X ä σ H s)(k:∀b u,s.heap.get? b=some u->h'.get? b=some u)(hp:s.heap.objs.size<=a)(new:nE X.prog X.w (upd H a o) h' a o) :
  Inv X ä σ (upd H a o) { s with heap:=h',toks:=t' }:=I.un (Un.laid k hp (I.hok.fresh hp)) (I.hok.laid k hp new)
theorem Inv.write {x e:Addr}{o:HO}{t':Nat}(I:Inv X ä σ H s)(mu:Tw (H x))(he:e=x\/H e=some (.own x))(k:∀b u,b≠e->s.heap.get? b=some u->h'.get? b=some u)(Pj:∃u,h'.get? e=some u)
  (new:nE X.prog X.w (upd H x o) h' x o):Inv X ä σ (upd H x o) { s with heap:=h',toks:=t' }:=I.un (Un.write mu he k Pj) (I.hok.write mu he k Pj new)
theorem Inv.weak {mw:List (Option V)}(I:Inv X ä σ H s)(hl:mw.length=σ.length)(w:∀(i:Nat) v,mw[i]?=some (some v)->σ[i]?=some (some v)):Inv X ä mw H s :=
 ⟨I.ok,I.os,I.bare,I.base,let ⟨m,hn,hl'⟩:=I.loc;⟨m,hn,fun i x v e1 e2 e3=>hl' i x v e1 (w i v e2) e3⟩,I.cell,I.free,I.freeC,I.pin,I.hok,hl.trans I.len⟩
theorem Inv.rp {MC:List (Addr×Obj)}(I:Inv X ä σ H s)(h:∀p∈MC,s.heap.get? p.1=some p.2/\H p.1=none/\p.1≠X.env.locals/\p.1∉X.fs/\∀v,p.2.data≠.cell v):Inv X MC σ H s :=
 ⟨I.ok,I.os,I.bare,I.base,I.loc,I.cell,I.free,I.freeC,fun p hp=>(g6.mp hp).elim (fun z=>I.pin p (cA _ z)) (h p),I.hok,I.len⟩
theorem w5 {N:List Str}(hN:N.Nodup){i j:Nat}{x:Str}(a:N[i]?=some x)(b:N[j]?=some x):i=j:=by
 obtain⟨h1,e1⟩:=List.getElem?_eq_some_iff.mp a;obtain⟨h2,e2⟩:=List.getElem?_eq_some_iff.mp b;exact(List.getElem_inj hN).mp (e1.trans e2.symm)
theorem yY {M:Model}{A:Around}{i:Nat}{x:Str}{v:V}{u:Value}(I:Inv X ä σ H s)(hN:X.N.Nodup)(hi:X.N[i]?=some x)(hx:Loc X.env.scope x)(r:RelV v u)
 (h:∀s',Inv X ä (σ.set i (some v)) H s'->(∃a,Heap.SameBut a s.heap s'.heap/\(a=X.env.locals\/X.env.cells.lookup x=some a))->Q () s')(hf:X.fn x=true\/X.env.scope.names.lookup x=some .local:=by first | exact .inl Z | exact .inr Z | assumption):wpAny M A (storeName X.env x u) Q E s:=by
  obtain⟨m,hn,hl⟩:=id I.loc;have Oy:(X.env.scope.kind == .class || (X.env.scope.kind == .module && X.env.locals != X.env.globals))=false:=by rw[I.ok.kind];rfl
  have RS:i<σ.length:=by rw[I.len];exact(aF.mp hi).1
  have Lw:=I.Lw;have tracked:∀{a:Addr}{h':Heap},(∃o,s.heap.get? a=some o/\H a=none)->Heap.SameBut a s.heap h'->vh X.prog X.w H h':=fun {a h'} ha hs b ob e=>by
    obtain⟨_,_,r8⟩:=ha;refine(I.hok b ob e).yB (fun c w' hc q=>(hs.2 c ?_).trans q) (fun _ q=>q) fun _ _ q=>q;rintro rfl;rcases hc with rfl | hc
    · rw[r8] at e;cases e
    · rw[r8] at hc;cases hc
  rcases hx with hk | hk
  · refine wpAny_storeName_local hk hn (fun h' RT hs=>?_) Oy
    obtain⟨oL,_,_,hoL,_⟩:=id hn;refine h _ ⟨I.ok,I.os,I.bare,⟨fun b o e n hb hx=>?_,fun b o e n hb hx=>?_,I.base.free,fun b o e hx=>?_,I.base.tups,I.base.frzs,I.base.tbls⟩,⟨_,RT,fun j y v' e1 e2 e3=>?_⟩,fun y c e=>?_,I.free,I.freeC,fun p hp=>?_,tracked ⟨oL,hoL,I.free⟩ hs,by simpa using I.len⟩ ⟨_,hs,.inl Z⟩
    · exact(hs.2 b (cy (bj (bB e) I.ok.above))).trans (I.base.keep b o e n hb hx)
    · obtain⟨sl,e1⟩:=I.base.slot b o e n hb hx
      exact⟨sl,(hs.2 b (cy (bj (bB e) I.ok.above))).trans e1⟩
    · obtain⟨o',e1⟩:=I.base.there b o e hx
      exact⟨o',(hs.2 b (cy (bj (bB e) I.ok.above))).trans e1⟩
    · by_cases hj:j=i
      · subst hj
        rw[hi] at e1;cases e1;rw[eV RS] at e2;cases e2;exact⟨u,r,.inl ⟨hk,ke⟩⟩
      · rw[fD (cM hj)] at e2
        obtain⟨u',r',q⟩:=hl j y v' e1 e2 e3;refine⟨u',r',?_⟩;rcases q with ⟨k,e⟩ | ⟨k,c,e,z⟩
        · refine .inl ⟨k,?_⟩
          have:y≠x:=fun e=>hj (w5 hN e1 (e▸hi));simp[this,e]
        · exact .inr ⟨k,c,e,z.sameBut hs (Lw y c e)⟩
    · obtain⟨w',z⟩:=I.cell y c e
      exact⟨w',z.sameBut hs (Lw y c e)⟩
    · obtain⟨e,n,ne,nf,d⟩:=I.pin p hp
      exact⟨(hs.2 p.1 ne).trans e,n,ne,nf,d⟩
  · have XY:X.fn x=true:=by
      rcases hf with z | z
      · exact z
      · rw[z] at hk;cases hk
    obtain⟨c,hc⟩:=I.ok.has x (.inl hk);obtain⟨w',z⟩:=I.cell x c hc;refine wpAny_storeName_cell I.ok.kind hk hc z (fun h' xW hs=>?_);obtain⟨oc,hoc,XZ⟩:=id z;refine h { s with heap:=h' } ⟨I.ok,I.os,I.bare,⟨fun b o e n hb hx=>?_,fun b o e n hb hx=>?_,I.base.free,fun b o e hx=>?_,I.base.tups,I.base.frzs,I.base.tbls⟩,⟨m,hn.sameBut hs (cM (Lw x c hc)),fun j y v' e1 e2 e3=>?_⟩,fun y c' e=>?_,I.free,I.freeC,fun p hp=>?_,tracked ⟨oc,hoc,I.freeC x c hc⟩ hs,by simpa using I.len⟩ ⟨c,hs,.inr hc⟩
    · exact(hs.2 b (cy (bj (bB e) (I.ok.cab x c XY hc)))).trans (I.base.keep b o e n hb hx)
    · obtain⟨sl,e1⟩:=I.base.slot b o e n hb hx
      exact⟨sl,(hs.2 b (cy (bj (bB e) (I.ok.cab x c XY hc)))).trans e1⟩
    · obtain⟨o',e1⟩:=I.base.there b o e hx
      exact⟨o',(hs.2 b (cy (bj (bB e) (I.ok.cab x c XY hc)))).trans e1⟩
    · by_cases hj:j=i
      · subst hj
        rw[hi] at e1;cases e1;rw[eV RS] at e2;cases e2;exact⟨u,r,.inr ⟨.inl hk,c,hc,xW⟩⟩
      · rw[fD (cM hj)] at e2
        obtain⟨u',r',q⟩:=hl j y v' e1 e2 e3;refine⟨u',r',?_⟩;rcases q with q | ⟨k,c',e,z'⟩
        · exact .inl q
        · refine .inr ⟨k,c',e,z'.sameBut hs ?_⟩
          rintro rfl;exact hj (w5 hN e1 (I.ok.inj _ _ _ e hc▸hi))
    · by_cases RU:c'=c
      · subst RU;exact⟨_,xW⟩
      · obtain⟨w2,z2⟩:=I.cell y c' e
        exact⟨w2,z2.sameBut hs RU⟩
    · obtain⟨e,n,ne,nf,d⟩:=I.pin p hp
      refine⟨(hs.2 p.1 ?_).trans e,n,ne,nf,d⟩;intro q;rw[q,hoc] at e;have q':oc=p.2:=bL e;exact d w' (by rw[<-q'];exact XZ)
theorem wG {M:Model}{A:Around}{i:Nat}{x:Str}{v:V}{u:Value}(I:Inv X ä σ H s)(hN:X.N.Nodup)(hi:X.N[i]?=some x)(hx:Loc X.env.scope x)(r:RelV v u)
 (h:∀s',Inv X ä (σ.set i (some v)) H s'->Q () s')(hf:X.fn x=true\/X.env.scope.names.lookup x=some .local:=by first | exact .inl Z | exact .inr Z | assumption):wpAny M A (storeName X.env x u) Q E s :=
  yY I hN hi hx r (fun s' I' _=>h s' I') hf
theorem Inv.Mv {s':Shared}(I:Inv X ä σ H s)(ho:s'.os=s.os)(u:Un (ye X.stack) ch H H' s.heap s'.heap)(hok:vh X.prog X.w H' s'.heap)(hg:AllBare s'.gens)
 (AQ:∀b∈ch,(b∈X.ex\/X.s₀.heap.objs.size<=b)/\b≠X.env.locals/\(∀x c,X.env.cells.lookup x=some c->c≠b)/\∀p∈X.pn++ä,p.1≠b):Inv X ä σ H' s':=by
  obtain⟨h',g',d',t',o'⟩:=s';have e:o'=s.os:=ho;subst e;exact I.call (g':=g') (t':=t') (d':=d') u hok hg AQ
end
abbrev XK:=Value->Option Addr->Hp->Prop
abbrev St:=List (Option V)
abbrev VK:=V->Hp->Prop
abbrev TE:=St->Hp->VK->Prop
abbrev TT:=St->Hp->(Bool->Hp->Prop)->Prop
abbrev TA:=St->Hp->(List V->Hp->Prop)->Prop
structure Ends where
 nx:St->Hp->Prop
 rt:VK
 bk:St->Hp->Prop:=fun _ _=>eC
 ct:St->Hp->Prop:=fun _ _=>eC
abbrev TS:=Ends->St->Hp->Prop
def EP (X:Cx)(ä:List (Addr×Obj))(σ:St)(Q:VK)(u:Value)(s':Shared):Prop:=∃v H',Inv X ä σ H' s'/\RelV v u/\Q v H'
def TP (X:Cx)(ä:List (Addr×Obj))(σ:St)(Q:Bool->Hp->Prop)(b:Bool)(s':Shared):Prop:=∃H',Inv X ä σ H' s'/\Q b H'
def AP (X:Cx)(ä:List (Addr×Obj))(σ:St)(Q:List V->Hp->Prop)(us:List Value)(s':Shared):Prop:=∃vs H',Inv X ä σ H' s'/\Vals vs us/\Q vs H'
def SP (X:Cx)(ä:List (Addr×Obj))(D:Ends)(f:Flow)(s':Shared):Prop :=
 match f with
 | .next=>∃mw H',Inv X ä mw H' s'/\D.nx mw H'
 | .brk=>∃mw H',Inv X ä mw H' s'/\D.bk mw H'
 | .cont=>∃mw H',Inv X ä mw H' s'/\D.ct mw H'
 | .ret u=>∃v mw H',Inv X ä mw H' s'/\RelV v u/\D.rt v H'
def PE (X:Cx)(e:Expr)(t:TE):Prop :=
 ∀(ä:List (Addr×Obj))(s:Shared)(σ:St)(H:Hp)(Q:VK),Inv X ä σ H s->t σ H Q->wpAny (model X.prog X.w) X.A (eval e X.env) (EP X ä σ Q) X.xe s
def PT (X:Cx)(e:Expr)(t:TT):Prop :=
 ∀(ä:List (Addr×Obj))(s:Shared)(σ:St)(H:Hp)(Q:Bool->Hp->Prop),Inv X ä σ H s->t σ H Q->wpAny (model X.prog X.w) X.A (isTrue e X.env (eval e X.env)) (TP X ä σ Q) X.xe s
def PW (X:Cx)(e:Expr)(t:TT):Prop :=
 ∀(whole:Sem Value)(ä:List (Addr×Obj))(s:Shared)(σ:St)(H:Hp)(Q:Bool->Hp->Prop),Inv X ä σ H s->t σ H Q->wpAny (model X.prog X.w) X.A (isTrue e X.env whole) (TP X ä σ Q) X.xe s
theorem PW.pt {X:Cx}{e:Expr}{t:TT}(h:PW X e t):PT X e t:=h _
def PA (X:Cx)(es:List Expr)(t:TA):Prop :=
 ∀(pos:Pos)(ä:List (Addr×Obj))(s:Shared)(σ:St)(H:Hp)(Q:List V->Hp->Prop),Inv X ä σ H s->t σ H Q->wpAny (model X.prog X.w) X.A (spliced (backTo pos (starEach es X.env))) (AP X ä σ Q) X.xe s
def PS (X:Cx)(st:Stmt)(t:TS):Prop :=
 ∀(ä:List (Addr×Obj))(s:Shared)(σ:St)(H:Hp)(D:Ends),Inv X ä σ H s->t D σ H->wpAny (model X.prog X.w) X.A (exec st X.env) (SP X ä D) X.xe s
def yu (X:Cx)(st:List Stmt)(t:TS):Prop :=
 ∀(ä:List (Addr×Obj))(s:Shared)(σ:St)(H:Hp)(D:Ends),Inv X ä σ H s->t D σ H->wpAny (model X.prog X.w) X.A (execs st X.env) (SP X ä D) X.xe s
theorem nK {α:Type}{t:Sem α}{Q Q':α->Shared->Prop}{M:Model}{A:Around}{E:Value->Shared->Prop}{s:Shared}(h:wpAny M A t Q E s)(hQ:∀a s,Q a s->Q' a s):wpAny M A t Q' E s:=c9 h hQ fun _ _ x=>x
section
variable {x:Str}{E Q:Value->Shared->Prop}{ä:List (Addr×Obj)}{u:Value}
variable {X:Cx}
def RN (i:Nat):TE:=fun σ H Q=>∃v,σ[i]?=some (some v)/\Q v H
def tC (v:V):TE:=fun _ H Q=>Q v H
theorem Nx {i:Nat}{pos:Pos}(hN:X.N[i]?=some x)(hv:Tx X.env.scope x)(hd:(x == ("__debug__":Str))=false:=by decide)(vP:(x == ("__classdict__":Str))=false:=by decide):PE X (.Name x pos) (RN i):=by
 intro ä s σ H Q I h;obtain⟨v,e,h⟩:=h;obtain⟨m,hn,hl⟩:=I.loc;obtain⟨u,r,l⟩:=hl i x v hN e hv;have fin:EP X ä σ Q u s:=⟨v,H,I,r,h⟩;rcases l with ⟨hk,hm⟩ | ⟨hk,c,hc,qZ⟩
 .exact wpAny_Name (wpAny_loadName_local I.ok.kind hk hn hm fin) hd
 .rcases hk with hk | hk
  .exact wpAny_Name (wpAny_loadName_cell I.ok.kind hk hc qZ fin) hd
  .exact wpAny_Name (wpAny_loadName_free I.ok.kind hk hc qZ fin vP) hd
theorem ks {i j pos}:PE X (.Constant (.int i) j pos) (tC (.int i)):=fun _ _ _ H _ I h=>wpAny_Constant_int ⟨.int i,H,I.tok _,⟨_,Z⟩,h⟩
theorem qB {b j pos}:PE X (.Constant (.bool b) j pos) (tC (.bl b)):=fun _ _ _ H _ I h=>Constant_bool ⟨.bl b,H,I,Z,h⟩
theorem sA {j pos}:PE X (.Constant .none j pos) (tC .non):=fun _ _ _ H _ I h=>Constant_none ⟨.non,H,I,Z,h⟩
theorem mR {x j pos}:PE X (.Constant (.str x) j pos) (tC (.str x)):=fun _ _ _ H _ I h=>Calls.Constant_str ⟨.str x,H,I.tok _,⟨_,Z⟩,h⟩
def Gl (X:Cx)(x:Str):Prop:=X.env.kindOf x=some .globalImplicit
theorem uv {s:Shared}{σ:St}{H:Hp}{pos:Pos}(I:Inv X ä σ H s)(hg:Gl X x)(hm:X.mg x=some u)(h:Q u s)
 (hd:(x == ("__debug__":Str))=false:=by decide):wpAny (model X.prog X.w) X.A (eval (.Name x pos) X.env) Q E s :=
  jm I.ok.kind hg (Calls.loadGlobal_global (by rw[I.ok.glob];exact I.mod.glob.keeps I.bk) hm h) hd
theorem qG {s:Shared}{σ:St}{H:Hp}{pos:Pos}(I:Inv X ä σ H s)(hg:Gl X x)(hm:X.mg x=none)(hv:bootBuiltins x=some u)(h:Q u s)
 (hn:x≠"__name__":=by decide)(hd:(x == ("__debug__":Str))=false:=by decide):wpAny (model X.prog X.w) X.A (eval (.Name x pos) X.env) Q E s:=by
  obtain⟨mb,h1,h2⟩:=I.mod.blt;exact jm I.ok.kind hg (Calls.loadGlobal_builtin (by rw[I.ok.glob];exact I.mod.glob.keeps I.bk) hm (by rw[I.ok.blt];exact h1.keeps I.bk) ((h2 x hn).trans hv) h) hd
theorem lY {v:V}{pos:Pos}(hg:Gl X x)(hm:X.mg x=some u)(r:RelV v u)(hd:(x == ("__debug__":Str))=false:=by decide):PE X (.Name x pos) (tC v) :=
 fun _ _ _ H _ I h=>uv I hg hm ⟨v,H,I,r,h⟩ hd
theorem qA {v:V}{pos:Pos}(hg:Gl X x)(hm:X.mg x=none)(hv:bootBuiltins x=some u)(r:RelV v u)(hn:x≠"__name__":=by decide)(hd:(x == ("__debug__":Str))=false:=by decide):PE X (.Name x pos) (tC v) :=
 fun _ _ _ H _ I h=>qG I hg hm hv ⟨v,H,I,r,h⟩ hn hd
variable {a b:Expr}{ta tb:TE}{pos:Pos}
def tB (t:TE):TT:=fun σ H Q=>t σ H fun x H1=>∃c,x=.bl c/\Q c H1
theorem oA {e:Expr}{t:TE}(h:PE X e t)(he:∀whole,isTrue e X.env whole=(do let v <-whole;standAt e.pos;holding [v] (truthy v)):=by intro _;rfl):PT X e (tB t):=by
 intro ä s σ H Q I hw;refine isTrue_plain (nK (h ä s σ H _ I hw) fun v s1 ⟨x,H1,I1,r1,q1⟩=>?_) (he _);obtain⟨d,rfl,q⟩:=q1;cases r1;exact fR ⟨H1,I1,q⟩
variable {tA tB':TT}{rest:List Expr}
def tOr (t u:TT):TT:=fun σ H Q=>t σ H fun c H1=>if c=true then Q true H1 else u σ H1 Q
def XA (t:TT):TT:=fun σ H Q=>t σ H fun c H1=>Q (!c) H1
theorem rq (ha:PT X a tA):PW X (.BoolOp .Or [a] pos) tA:=by
 intro wh ä s σ H Q I h;refine isTrue_or (nK (ha ä s σ H Q I h) fun c s1 e=>?_);cases c with
 | false=>exact isTrue_or_nil e
 | true=>exact e
theorem pL (ha:PT X a tA)(hb:PW X (.BoolOp .Or (b::rest) pos) tB'):PW X (.BoolOp .Or (a::b::rest) pos) (tOr tA tB'):=by
 intro wh ä s σ H Q I h;refine isTrue_or (nK (ha ä s σ H _ I h) fun c s1 ⟨H1,I1,q1⟩=>?_);cases c with
 | true=>exact⟨H1,I1,q1⟩
 | false=>exact hb wh ä s1 σ H1 Q I1 q1
theorem oW (ha:PT X a tA):PT X (.UnaryOp .Not a pos) (XA tA):=by
 intro ä s σ H Q I h;exact isTrue_not (ha ä s σ H (fun c H1=>Q (!c) H1) I h)
def QI (ta tb:TE):TE:=fun σ H Q=>ta σ H fun x H1=>∃c,x=.bl c/\if c=true then tb σ H1 Q else Q (.bl false) H1
def Vc (ta tb:TE):TE:=fun σ H Q=>ta σ H fun x H1=>∃c,x=.bl c/\if c=true then Q (.bl true) H1 else tb σ H1 Q
def Q7 (ta:TE):TE:=fun σ H Q=>ta σ H fun x H1=>∃c,x=.bl c/\Q (.bl (!c)) H1
theorem wE {op}{t:TE}(h:PE X a t):PE X (.BoolOp op [a] pos) t:=fun ä s σ H Q I hw=>BoolOp_one (h ä s σ H Q I hw)
theorem Ds (ha:PE X a ta)(hb:PE X (.BoolOp .And (b::rest) pos) tb):PE X (.BoolOp .And (a::b::rest) pos) (QI ta tb):=by
 intro ä s σ H Q I h;refine BoolOp_and (nK (ha ä s σ H _ I h) fun v s1 ⟨x,H1,I1,r1,q1⟩=>?_);obtain⟨c,rfl,q1⟩:=q1;cases r1;refine fR ?_;cases c with
 | true=>exact hb ä s1 σ H1 Q I1 q1
 | false=>exact⟨.bl false,H1,I1,Z,q1⟩
theorem My (ha:PE X a ta)(hb:PE X (.BoolOp .Or (b::rest) pos) tb):PE X (.BoolOp .Or (a::b::rest) pos) (Vc ta tb):=by
 intro ä s σ H Q I h;refine BoolOp_or (nK (ha ä s σ H _ I h) fun v s1 ⟨x,H1,I1,r1,q1⟩=>?_);obtain⟨c,rfl,q1⟩:=q1;cases r1;refine fR ?_;cases c with
 | false=>exact hb ä s1 σ H1 Q I1 q1
 | true=>exact⟨.bl true,H1,I1,Z,q1⟩
theorem GD (ha:PE X a ta):PE X (.UnaryOp .Not a pos) (Q7 ta):=by
 intro ä s σ H Q I h;refine UnaryOp_ (nK (ha ä s σ H _ I h) fun v s1 ⟨x,H1,I1,r1,q1⟩=>?_);obtain⟨c,rfl,q1⟩:=q1;cases r1;exact not_of (fR ⟨.bl (!c),H1,I1,Z,q1⟩)
def tIf (t:TT)(ta tb:TE):TE:=fun σ H Q=>t σ H fun c H1=>if c=true then ta σ H1 Q else tb σ H1 Q
theorem G9 {c:Expr}(hc:PT X c tA)(ha:PE X a ta)(hb:PE X b tb):PE X (.IfExp c a b pos) (tIf tA ta tb):=by
 intro ä s σ H Q I h;refine wpAny_IfExp (nK (hc ä s σ H _ I h) fun d s1 ⟨H1,I1,q1⟩=>?_);cases d with
 | true=>exact ha ä s1 σ H1 Q I1 q1
 | false=>exact hb ä s1 σ H1 Q I1 q1
end
def kR (K:zdg)(H:Hp)(a:Addr)(xs:List V):Prop :=
 Rd H a (.lst xs) \/
  ∃(o:Obj)(â:Array Value)(n:Nat),K.lookup a=some o/\o.cls=.type "list"/\o.dict=none/\o.data=.seq â n/\â.size<=sizeLine/\Vals xs â.toList
def lX (K:zdg)(H:Hp)(a:Addr)(xs:List V):Prop :=
 Rd H a (.tup xs) \/
  ∃(o:Obj)(â:Array Value)(n:Nat),K.lookup a=some o/\o.cls=.type "tuple"/\o.data=.seq â n/\â.size<=sizeLine/\Vals xs â.toList
def VD:Value->Option V
 | .none=>some .non
 | .bool b=>some (.bl b)
 | .int i _=>some (.int i)
 | .str x _=>some (.str x)
 | .bytes b _=>some (.byt b)
 | .float b _=>some (.flt b)
 | .ref a=>some (.ref a)
 | .type n=>some (.ty n)
 | _=>none
theorem RelV.abs {x:V}{u:Value}(r:RelV x u):VD u=some x:=by
 cases x with
 | non=>cases r;rfl
 | bl _=>cases r;rfl
 | int _=>obtain⟨t,rfl⟩:=r;rfl
 | str _=>obtain⟨t,rfl⟩:=r;rfl
 | byt _=>obtain⟨t,rfl⟩:=r;rfl
 | flt _=>obtain⟨t,rfl⟩:=r;rfl
 | ref _=>cases r;rfl
 | ty _=>cases r;rfl
theorem RelV.inj {x y:V}{u:Value}(r:RelV x u)(q:RelV y u):x=y:=bL (r.abs.symm.trans q.abs)
theorem Vals.inj:∀{xs ys:List V}{us:List Value},Vals xs us->Vals ys us->xs=ys
 | _,_,_,.nil,.nil=>rfl
 | _,_,_,.cons r t,.cons r' t'=>by rw[r.inj r',Vals.inj t t']
section
variable {X:Cx}{ä:List (Addr×Obj)}{σ:St}{H:Hp}{s:Shared}{a:Addr}{xs ys:List V}
theorem kR.of {K:zdg}(h:H a=some (.lst xs)):kR K H a xs:=.inl (.inl h)
theorem lX.of {K:zdg}(h:H a=some (.tup xs)):lX K H a xs:=.inl (.inl h)
theorem Inv.list (I:Inv X ä σ H s)(h:kR X.K H a xs):∃â:List Value,Vals xs â/\PlainL s.heap a â.toArray/\xs.length<=sizeLine:=by
 rcases h with h | ⟨o,â,n,hk,hc,hd,hs,hz,r⟩
 .obtain⟨z,â,n,r,e⟩:=h.ok I.hok;exact⟨â,r,⟨_,n,e,Z,Z,Z⟩,z⟩
 .refine⟨â.toList,r,⟨o,n,I.t5 a o hk,hc,hd,by simpa using hs⟩,?_⟩;have e:=r.length;simp only[Array.length_toList] at e;omega
theorem Inv.tuple (I:Inv X ä σ H s)(h:lX X.K H a xs):∃â:List Value,Vals xs â/\IsTup s.heap a â.toArray/\xs.length<=sizeLine:=by
 rcases h with h | ⟨o,â,n,hk,hc,hs,hz,r⟩
 .obtain⟨z,â,r,p⟩:=h.ok I.hok;exact⟨â,r,p,z⟩
 .refine⟨â.toList,r,⟨o,I.t5 a o hk,hc,n,by simpa using hs⟩,?_⟩;have e:=r.length;simp only[Array.length_toList] at e;omega
theorem Inv.uG (I:Inv X ä σ H s)(h:kR X.K H a xs)(h':kR X.K H a ys):xs=ys:=by
 obtain⟨â,r,⟨o,n,e,_,_,d⟩,_⟩:=I.list h;obtain⟨its',r',⟨o',n',e',_,_,d'⟩,_⟩:=I.list h';rw[e] at e';cases e';rw[d] at d';injection d' with d1 _;have:â=its':=by simpa using congrArg Array.toList d1
 subst this;exact r.inj r'
theorem Inv.FN (I:Inv X ä σ H s)(h:lX X.K H a xs)(h':lX X.K H a ys):xs=ys:=by
 obtain⟨â,r,⟨o,e,_,n,d⟩,_⟩:=I.tuple h;obtain⟨its',r',⟨o',e',_,n',d'⟩,_⟩:=I.tuple h';rw[e] at e';cases e';rw[d] at d';injection d' with d1 _;have:â=its':=by simpa using congrArg Array.toList d1
 subst this;exact r.inj r'
end
abbrev Cx.ve (X:Cx)(E:Value->Shared->Prop):Cx:={ X with xe:=E }
abbrev Cx.Fc (X:Cx):Cx:=X.ve fun _ _=>eC
theorem Cx.Ok.ve {X:Cx}(ok:X.Ok)(E:Value->Shared->Prop):(X.ve E).Ok :=
 ⟨ok.mod,ok.kind,ok.glob,ok.blt,ok.above,ok.inj,ok.has,ok.cab,ok.hd,ok.frames,ok.stk,ok.exf,ok.bs,ok.bsz,ok.noex,ok.exfs,ok.t8,ok.frf⟩
theorem Cx.Ok.qg {X:Cx}{E:Value->Shared->Prop}(ok:(X.ve E).Ok):X.Ok :=
 ⟨ok.mod,ok.kind,ok.glob,ok.blt,ok.above,ok.inj,ok.has,ok.cab,ok.hd,ok.frames,ok.stk,ok.exf,ok.bs,ok.bsz,ok.noex,ok.exfs,ok.t8,ok.frf⟩
section
variable {X:Cx}{ä:List (Addr×Obj)}{σ:St}{H:Hp}{s:Shared}{E:Value->Shared->Prop}
theorem Inv.ve (I:Inv X ä σ H s)(E:Value->Shared->Prop):Inv (X.ve E) ä σ H s:=⟨I.ok.ve E,I.os,I.bare,I.base,I.loc,I.cell,I.free,I.freeC,I.pin,I.hok,I.len⟩
theorem Inv.qg (I:Inv (X.ve E) ä σ H s):Inv X ä σ H s:=⟨I.ok.qg,I.os,I.bare,I.base,I.loc,I.cell,I.free,I.freeC,I.pin,I.hok,I.len⟩
theorem SP.qg {D:Ends}{f:Flow}{s':Shared}(h:SP (X.ve E) ä D f s'):SP X ä D f s':=by
 cases f with
 | next=>obtain⟨mw,H',I,q⟩:=h;exact⟨mw,H',I.qg,q⟩
 | brk=>obtain⟨mw,H',I,q⟩:=h;exact⟨mw,H',I.qg,q⟩
 | cont=>obtain⟨mw,H',I,q⟩:=h;exact⟨mw,H',I.qg,q⟩
 | ret u=>obtain⟨v,mw,H',I,r,q⟩:=h;exact⟨v,mw,H',I.qg,r,q⟩
theorem PE.Fc {e:Expr}{t:TE}(h:PE X.Fc e t):PE X e t:=fun ä s σ H Q I hw =>
 c9 (h ä s σ H Q (I.ve _) hw) (fun _ _ ⟨v,H',I',r,q⟩=>⟨v,H',I'.qg,r,q⟩) fun _ _ z=>False.elim z
theorem PT.Fc {e:Expr}{t:TT}(h:PT X.Fc e t):PT X e t:=fun ä s σ H Q I hw =>
 c9 (h ä s σ H Q (I.ve _) hw) (fun _ _ ⟨H',I',q⟩=>⟨H',I'.qg,q⟩) fun _ _ z=>False.elim z
theorem yu.Fc {st:List Stmt}{t:TS}(h:yu X.Fc st t):yu X st t:=fun ä s σ H D I hw =>
 c9 (h ä s σ H D (I.ve _) hw) (fun _ _ q=>q.qg) fun _ _ z=>False.elim z
end
section
variable {X:Cx}{st:Stmt}{rest:List Stmt}{t u:TS}{e:Expr}{te:TE}{pos:Pos}
def RG:TS:=fun D σ H=>D.nx σ H
def WH (t u:TS):TS:=fun D σ H=>t { D with nx:=u D } σ H
theorem k9:yu X [] RG:=fun _ _ σ H _ I h=>gg ⟨σ,H,I,h⟩
theorem kh (h1:PS X st t)(h2:yu X rest u):yu X (st::rest) (WH t u):=by
 intro ä s σ H D I h;refine hI (nK (h1 ä s σ H { D with nx:=u D } I h) fun f s1 q=>?_);cases f with
 | next =>
  obtain⟨mw,H',I',q⟩:=q;exact h2 ä s1 mw H' D I' q
 | ret v=>exact q
 | brk=>exact q
 | cont=>exact q
theorem ky (h1:PS X st t):yu X [st] t:=by
 intro ä s σ H D I h;refine hI (nK (h1 ä s σ H D I h) fun f s1 q=>?_);cases f with
 | next=>exact gg q
 | ret v=>exact q
 | brk=>exact q
 | cont=>exact q
theorem Inv.quiet {ä:List (Addr×Obj)}{σ:St}{H:Hp}{s:Shared}(I:Inv X ä σ H s):interactive X.env=false:=by simp[interactive,I.ok.kind]
def QG (te:TE):TS:=fun D σ H=>te σ H fun _ H1=>D.nx σ H1
theorem oy (he:PE X e te)(hs:swapsWith e none pos.line X.env=pure false:=by rfl):PS X (.Expr e pos) (QG te):=by
 intro ä s σ H D I h;exact wpAny_Expr_any (nK (he ä s σ H _ I h) fun v s1 ⟨x,H1,I1,r1,q1⟩=>⟨σ,H1,I1,q1⟩) I.quiet hs
def U2 (te:TE):TS:=fun D σ H=>te σ H D.rt
theorem kM (he:PE X e te):PS X (.Return (some e) pos) (U2 te):=by
 intro ä s σ H D I h;exact wpAny_Return_some (nK (he ä s σ H _ I h) fun v s1 ⟨x,H1,I1,r1,q1⟩=>⟨x,σ,H1,I1,r1,q1⟩)
def XO (c:TT)(t u:TS):TS:=fun D σ H=>c σ H fun b H1=>if b=true then t D σ H1 else u D σ H1
theorem mh {c:Expr}{a b:List Stmt}{tc:TT}(hc:PT X c tc)(ha:yu X a t)(hb:yu X b u):PS X (.If c a b pos) (XO tc t u):=by
 intro ä s σ H D I h;refine wpAny_If (nK (hc ä s σ H _ I h) fun d s1 ⟨H1,I1,q1⟩=>?_);cases d with
 | true=>exact ha ä s1 σ H1 D I1 q1
 | false=>exact hb ä s1 σ H1 D I1 q1
def NF:TS:=fun _ _ _=>eC
theorem xt:PS X st NF:=fun _ _ _ _ _ _ h=>h.elim
end
abbrev TG:=V->St->Hp->(St->Hp->Prop)->Prop
abbrev NE:=List V->St->Hp->(St->Hp->Prop)->Prop
def PG (X:Cx)(target:Expr)(t:TG):Prop :=
 ∀(ä:List (Addr×Obj))(s:Shared)(σ:St)(H:Hp)(v:V)(u:Value)(Q:St->Hp->Prop),Inv X ä σ H s->RelV v u->t v σ H Q ->
  wpAny (model X.prog X.w) X.A (assign target X.env u) (fun _ s'=>∃mw H',Inv X ä mw H' s'/\Q mw H') X.xe s
def TK (X:Cx)(ts:List Expr)(t:NE):Prop :=
 ∀(ä:List (Addr×Obj))(s:Shared)(σ:St)(H:Hp)(vs:List V)(us:List Value)(Q:St->Hp->Prop),Inv X ä σ H s->Vals vs us->t vs σ H Q ->
  wpAny (model X.prog X.w) X.A (assignInOrder ((assignEach ts X.env).map (·.2)) us) (fun _ s'=>∃mw H',Inv X ä mw H' s'/\Q mw H') X.xe s
abbrev MV:=V->V->V->Hp->(Hp->Prop)->Prop
def Rz (X:Cx)(t:MV):Prop :=
 ∀(ä:List (Addr×Obj))(s:Shared)(σ:St)(H:Hp)(o i v:V)(ov iv u:Value)(Q:Hp->Prop),Inv X ä σ H s->RelV o ov->RelV i iv->RelV v u->t o i v H Q ->
  wpAny (model X.prog X.w) X.A (setItem ov iv u) (fun _ s'=>∃H',Inv X ä σ H' s'/\Q H') X.xe s
section
variable {X:Cx}{pos:Pos}
def mM (i:Nat):TG:=fun v σ H Q=>Q (σ.set i (some v)) H
theorem oZ {i:Nat}{x:Str}(hN:X.N.Nodup)(hi:X.N[i]?=some x)(hx:Loc X.env.scope x)(hf:X.fn x=true\/X.env.scope.names.lookup x=some .local:=by first | exact .inl Z | exact .inr Z | assumption):PG X (.Name x pos) (mM i):=by
 intro ä s σ H v u Q I r h;exact wpAny_assign_Name (wG I hN hi hx r (fun s' I'=>⟨_,H,I',h⟩) hf)
def Lk:NE:=fun vs σ H Q=>vs=[]/\Q σ H
def vH (t:TG)(u:NE):NE:=fun vs σ H Q=>∃v r,vs=v::r/\t v σ H fun mw H'=>u r mw H' Q
theorem mS:TK X [] Lk:=by
 intro ä s σ H vs us Q I r h;obtain⟨e,h⟩:=h;subst e;cases r;exact assignInOrder_nil ⟨σ,H,I,h⟩
theorem kX {e:Expr}{es:List Expr}{t:TG}{u:NE}(h1:PG X e t)(h2:TK X es u)
  (hs:(assignEach (e::es) X.env).map (·.2)=assign e X.env::(assignEach es X.env).map (·.2):=by rfl):TK X (e::es) (vH t u):=by
 intro ä s σ H vs us Q I r h;obtain⟨v,vr,e1,h⟩:=h;subst e1;cases r with
 | cons r rr =>
  rw[hs];refine assignInOrder_cons (nK (h1 ä s σ H _ _ _ I r h) fun _ s1 ⟨JO,H1,I1,q1⟩=>?_);exact h2 ä s1 JO H1 _ _ Q I1 rr q1
def Ll (K:zdg)(n:Nat)(t:NE):TG:=fun v σ H Q=>∃a xs,v=.ref a/\lX K H a xs/\xs.length=n/\t xs σ H Q
theorem nI {es:List Expr}{k:Nat}{t:NE}{n:Nat}(hc:X.calm=true)(h:TK X es t)
  (hn:(assignEach es X.env).length=n:=by rfl)(ub:(assignEach es X.env).findIdx? (·.1)=none:=by rfl):PG X (.Tuple es k pos) (Ll X.K n t):=by
 intro ä s σ H v u Q I r hw;obtain⟨a,xs,e1,hq,hl,hw⟩:=hw;subst e1;cases r;obtain⟨â,rv,ht,hz⟩:=I.tuple hq;refine assign_Tuple_tuple (I.ok.hd hc) ht (by simp[hn,<-hl,rv.length]) ub fun h' hx=>?_;have I1:Inv X ä σ H { s with heap:=h' }:=I.kept (t':=s.toks) fun b o e=>hx b o (cy (bB e)) e;exact h ä _ σ H xs _ Q I1 (by simpa using rv) hw
def VM (to ti:TE)(t:MV):TG:=fun v σ H Q=>to σ H fun o H1=>ti σ H1 fun i H2=>t o i v H2 fun H3=>Q σ H3
theorem pZ {o i:Expr}{to ti:TE}{t:MV}(ho:PE X o to)(hi:PE X i ti)(hs:Rz X t)
  (ha:∀v,assign (.Subscript o i pos) X.env v=(do
   let ov <-holding [v] (eval o X.env)
   let iv <-holding [v,ov] (eval i X.env)
   standAt pos
   holding [v,ov,iv] (setItem ov iv v)
   release [v,ov,iv] []):=by intro _;rfl):PG X (.Subscript o i pos) (VM to ti t):=by
 intro ä s σ H v u Q I r h;rw[ha];refine aO (gE (nK (ho ä s σ H _ I h) fun ov s1 ⟨x,H1,I1,r1,q1⟩=>?_));refine aO (gE (nK (hi ä s1 σ H1 _ I1 q1) fun iv s2 ⟨y,H2,I2,r2,q2⟩=>?_));refine aO (jw (aO (gE (nK (hs ä s2 σ H2 x y v ov iv u _ I2 r1 r2 r q2) fun _ s3 ⟨H3,I3,q3⟩=>?_))));exact wpAny_release ⟨σ,H3,I3,q3⟩
def Iy (te:TE)(g:TG):TS:=fun D σ H=>te σ H fun x H1=>g x σ H1 D.nx
theorem pY {tg e:Expr}{te:TE}{g:TG}(he:PE X e te)(hg:PG X tg g)(hs:swapsWithSole [tg] e pos.line X.env=pure false:=by rfl)(hw:swappedStores [tg] e X.env=pure none:=by rfl)
  (h1:(assignEach [tg] X.env).map (·.2)=[assign tg X.env]:=by rfl):PS X (.Assign [tg] e pos) (Iy te g):=by
 intro ä s σ H D I h;refine wpAny_Assign_stores (nK (he ä s σ H _ I h) fun v s1 ⟨x,H1,I1,r1,q1⟩=>?_) hs hw;rw[h1];exact nK (hg ä s1 σ H1 x v _ I1 r1 q1) fun _ s2 q=>q
theorem M7 {i:Nat}{x:Str}{e:Expr}{te:TE}{pos':Pos}(hN:X.N.Nodup)(hi:X.N[i]?=some x)(hx:Loc X.env.scope x)(he:PE X e te)(hs:swapsWith e (some (.Name x pos')) pos.line X.env=pure false:=by rfl)(hf:X.fn x=true\/X.env.scope.names.lookup x=some .local:=by first | exact .inl Z | exact .inr Z | assumption) :
  PS X (.Assign [.Name x pos'] e pos) (Iy te (mM i)):=by
 intro ä s σ H D I h;refine wpAny_Assign_Name (nK (he ä s σ H _ I h) fun v s1 ⟨y,H1,I1,r1,q1⟩=>?_) hs;exact wG I1 hN hi hx r1 (fun s2 I2=>⟨_,H1,I2,q1⟩) hf
end
section
variable {X:Cx}{pos:Pos}
def NZ (c:TT)(tb:TS):TS:=fun D σ H=>∃W:Nat->St->Hp->Prop,(∃m,W m σ H)/\∀m σ H,W m σ H ->
 c σ H fun b H1=>if b=true then ∃N:St->Hp->Prop,(∀mw H',N mw H'->∃m',m'<m/\W m' mw H')/\tb { D with nx:=N,ct:=N,bk:=D.nx } σ H1 else D.nx σ H1
theorem nW {c:Expr}{body:List Stmt}{tc:TT}{tb:TS}(hp:PassesOwn (model X.prog X.w) X.A X.env X.xe)(hc:PT X c tc)(hb:yu X body tb):PS X (.While c body [] pos) (NZ tc tb):=by
 intro ä s σ H D I h;obtain⟨W,⟨m0,w0⟩,turn⟩:=h;refine wpAny_While (codeAny_whileLoop (fun n s'=>∃mw H',Inv X ä mw H' s'/\W n mw H') ?_ m0 ⟨σ,H,I,w0⟩);rintro n s1 ⟨JO,H1,I1,w1⟩;refine fE hp (nK (hc ä s1 JO H1 _ I1 (turn n JO H1 w1)) fun b s2 ⟨H2,I2,q2⟩=>?_);cases b with
 | true =>
  obtain⟨N,hN,q2⟩:=q2;rw[aB Z];refine fE hp (nK (hb ä s2 JO H2 _ I2 q2) fun f s3 q3=>?_);cases f with
  | next =>
   obtain⟨Jt,H3,I3,n3⟩:=q3;obtain⟨m',hm,w3⟩:=hN Jt H3 n3;exact⟨m',hm,Jt,H3,I3,w3⟩
  | cont =>
   obtain⟨Jt,H3,I3,n3⟩:=q3;obtain⟨m',hm,w3⟩:=hN Jt H3 n3;exact⟨m',hm,Jt,H3,I3,w3⟩
  | brk=>exact q3
  | ret v=>exact q3
 | false =>
  rw[ak aU];exact gg ⟨JO,H2,I2,q2⟩
end
structure It where
 go:Nat->Hp->Prop
 yld:Nat->Hp->V->Hp->Prop
 stop:Nat->Hp->Prop
def zJ (X:Cx)(ä:List (Addr×Obj))(H:Hp)(b:Addr):Prop :=
 H b=none/\b≠X.env.locals/\b∉X.fs/\(b∈X.ex\/X.s₀.heap.objs.size<=b)/\(∀x c,X.env.cells.lookup x=some c->c≠b)/\∀p∈X.pn++ä,p.1≠b
theorem Inv.Cq {X:Cx}{ä:List (Addr×Obj)}{σ:St}{H H':Hp}{s:Shared}{b:Addr}(I:Inv X ä σ H s)(hb:s.heap.objs.size<=b)(hn:H' b=none):zJ X ä H' b:=by
 refine⟨hn,iW (bj I.lt hb),I.Il hb,.inr (bQ I.sz hb),fun x c e z=>?_,fun p hp z=>?_⟩
 .obtain⟨v,q⟩:=I.cell x c e;exact absurd (bj q.lt (by rw[z];exact hb)) (dM _)
 .exact absurd (bj (bB (I.pin p hp).1) (by rw[z];exact hb)) (dM _)
structure Turn (P:Program)(w:World)(K:zdg)(tg:Expr)(ziS:It)(fp:List Addr)(it:Addr)(tn:Nat->Heap->Prop):Prop where
 mem:it∈fp
 obj:∀i h,tn i h->∀b∈fp,∃o,h.get? b=some o/\∀v,o.data≠.cell v
 keep:∀i h h',tn i h->(∀b∈fp,∀o,h.get? b=some o->h'.get? b=some o)->tn i h'
 item:∀(X:Cx),X.prog=P->X.w=w->X.K=K->X.calm=true->∀(i:Nat)(ä:List (Addr×Obj))(s:Shared)(σ:St)(H:Hp)(E:Value->Shared->Prop),Inv X ä σ H s->(∀b∈fp,zJ X ä H b)->tn i s.heap->ziS.go i H ->
  wpAny (model P w) X.A (pyNext (.ref it)) (fun r s1=>∃u,r=some u /\
   wpAny (model P w) X.A (letOwnedTupleGo tg (.ref it) u) (fun _ s2=>∃x H',Inv X ä σ H' s2/\RelV x u/\ziS.yld i H x H'/\tn (i+1) s2.heap/\∀b∈fp,H' b=none) E s1) E s
 done:∀(X:Cx),X.prog=P->X.w=w->X.K=K->X.calm=true->∀(i:Nat)(ä:List (Addr×Obj))(s:Shared)(σ:St)(H:Hp)(E:Value->Shared->Prop),Inv X ä σ H s->(∀b∈fp,zJ X ä H b)->tn i s.heap->ziS.stop i H ->
  wpAny (model P w) X.A (pyNext (.ref it)) (fun r s1=>r=none/\Inv X ä σ H s1) E s
 self:∀(A:Around)(i:Nat)(s:Shared)(Q:Value->Shared->Prop)(E:Value->Shared->Prop),tn i s.heap->Q (.ref it) s->wpAny (model P w) A (pyIter (.ref it)) Q E s
abbrev TI:=St->Hp->(It->Hp->Prop)->Prop
def ZT (X:Cx)(ä:List (Addr×Obj))(σ:St)(tg:Expr)(R:It->Hp->Prop)(ME:Value)(s2:Shared):Prop :=
 ∃(it:Addr)(fp:List Addr)(tn:Nat->Heap->Prop)(ziS:It)(H':Hp),ME=.ref it/\Inv X ä σ H' s2/\Turn X.prog X.w X.K tg ziS fp it tn/\tn 0 s2.heap/\(∀b∈fp,zJ X ä H' b)/\R ziS H'
def PI (X:Cx)(tg iter:Expr)(wi:TI):Prop :=
 ∀(ä:List (Addr×Obj))(s:Shared)(σ:St)(H:Hp)(R:It->Hp->Prop),Inv X ä σ H s->wi σ H R ->
  wpAny (model X.prog X.w) X.A (eval iter X.env) (fun v s1=>wpAny (model X.prog X.w) X.A (pyIter v) (ZT X ä σ tg R) X.xe s1) X.xe s
theorem EU {M:Model}{A:Around}{E:Value->Shared->Prop}{s:Shared}{tg:Expr}{it:Addr}{u:Value}{o:Obj}{n:String}{vs:Array Value}{Q:Unit->Shared->Prop}(ho:s.heap.get? it=some o)(hc:o.cls=.type n)(hd:o.data=.fields vs)
    (hn:["enumerate","zip","dict_itemiterator","dict_reverseitemiterator","odict_iterator","itertools.zip_longest","itertools.pairwise"].contains n=false)(hQ:Q () s):wpAny M A (letOwnedTupleGo tg (.ref it) u) Q E s:=by
  unfold letOwnedTupleGo;cases tg<;>first
    | exact bX hQ
    | (cases u<;>first
        | exact bX hQ
        | (refine aO (wpAny_load ho ?_)
           rw[hc,hd];show wpAny M A (if (["enumerate","zip","dict_itemiterator","dict_reverseitemiterator","odict_iterator","itertools.zip_longest","itertools.pairwise"].contains n && vs[0]? == some (rawInt _))=true then _ else _) Q E s
           rw[ak (by intro h;rw[hn,Bool.false_and] at h;cases h)];exact bX hQ))
def Lv (K:zdg)(a:Addr):It :=
 ⟨fun i H=>∃xs x,kR K H a xs/\xs[i]?=some x,fun i H x H'=>H'=H/\∀xs,kR K H a xs->xs[i]?=some x,fun i H=>∃xs,kR K H a xs/\xs.length<=i⟩
def Wa (K:zdg)(a:Addr):It :=
 ⟨fun i H=>∃xs x,lX K H a xs/\xs[i]?=some x,fun i H x H'=>H'=H/\∀xs,lX K H a xs->xs[i]?=some x,fun i H=>∃xs,lX K H a xs/\xs.length<=i⟩
def DF (lo:Int)(n:Nat):It:=⟨fun i _=>i<n,fun i H x H'=>H'=H/\x=.int (lo+i),fun i _=>n<=i⟩
theorem Ff {P:Program}{w:World}{K:zdg}{tg:Expr}(a it:Addr):Turn P w K tg (Lv K a) [it] it (fun i h=>h.IsListIter it a i) where
 mem:=by simp
 obj:=fun i h st b hb=>by
  have e:b=it:=by simpa using hb
  subst e;obtain⟨o,e,c,d⟩:=st;exact⟨o,e,fun v z=>by rw[d] at z;cases z⟩
 keep:=fun i h h' st k=>st.at fun o e=>k it ke o e
 item:=by
  intro X hP hw hK hc i ä s σ H E I hf st hg;subst hP hw hK;obtain⟨xs,x,hq,hx⟩:=hg;obtain⟨â,rv,p,hz⟩:=I.list hq;obtain⟨u,hu,ru⟩:=rv.get hx;obtain⟨f0,f1,f2,f3,f4,f5⟩:=hf it ke;refine wpAny_pyNext_list_item st p.isList (x:=u) (by simpa using hu) fun h' JP sb=>?_;have I1:Inv X ä σ H { s with heap:=h' }:=I.turned (t':=s.toks) (fun b o hb e=>(sb.2 b hb).trans e) f0 f1 f3 f4 f5;obtain⟨o,e,c,d⟩:=id JP;exact⟨u,Z,EU (s:={ s with heap:=h' }) e c d O ⟨x,H,I1,ru,⟨Z,fun ys hy=>by rw[I.uG hy hq];exact hx⟩,JP,fun b hb=>(hf b hb).1⟩⟩
 done:=by
  intro X hP hw hK hc i ä s σ H E I hf st hg;subst hP hw hK;obtain⟨xs,hq,hx⟩:=hg;obtain⟨â,rv,p,hz⟩:=I.list hq;obtain⟨f0,f1,f2,f3,f4,f5⟩:=hf it ke;have hl:=rv.length;exact wpAny_pyNext_list_end (I.ok.hd hc) st p.isList (by simp;omega) fun h' eb=>⟨Z,I.turned (t':=s.toks) (fun b o hb e=>eb b o hb e) f0 f1 f3 f4 f5⟩
 self:=fun _ _ _ _ _ st h=>wpAny_pyIter_listiter st h
theorem C3 {P:Program}{w:World}{K:zdg}{tg:Expr}(a it:Addr):Turn P w K tg (Wa K a) [it] it (fun i h=>h.IsTupleIter it a i) where
 mem:=by simp
 obj:=fun i h st b hb=>by
  have e:b=it:=by simpa using hb
  subst e;obtain⟨o,e,c,d⟩:=st;exact⟨o,e,fun v z=>by rw[d] at z;cases z⟩
 keep:=fun i h h' st k=>st.at fun o e=>k it ke o e
 item:=by
  intro X hP hw hK hc i ä s σ H E I hf st hg;subst hP hw hK;obtain⟨xs,x,hq,hx⟩:=hg;obtain⟨â,rv,p,hz⟩:=I.tuple hq;obtain⟨u,hu,ru⟩:=rv.get hx;obtain⟨f0,f1,f2,f3,f4,f5⟩:=hf it ke;refine wpAny_pyNext_tuple_item st (show s.heap.IsTuple a â.toArray from p) (x:=u) (by simpa using hu) fun h' JP sb=>?_;have I1:Inv X ä σ H { s with heap:=h' }:=I.turned (t':=s.toks) (fun b o hb e=>(sb.2 b hb).trans e) f0 f1 f3 f4 f5;obtain⟨o,e,c,d⟩:=id JP;exact⟨u,Z,EU (s:={ s with heap:=h' }) e c d O ⟨x,H,I1,ru,⟨Z,fun ys hy=>by rw[I.FN hy hq];exact hx⟩,JP,fun b hb=>(hf b hb).1⟩⟩
 done:=by
  intro X hP hw hK hc i ä s σ H E I hf st hg;subst hP hw hK;obtain⟨xs,hq,hx⟩:=hg;obtain⟨â,rv,p,hz⟩:=I.tuple hq;obtain⟨f0,f1,f2,f3,f4,f5⟩:=hf it ke;have hl:=rv.length;exact wpAny_pyNext_tuple_end (I.ok.hd hc) st (show s.heap.IsTuple a â.toArray from p) (by simp;omega) fun h' eb=>⟨Z,I.turned (t':=s.toks) (fun b o hb e=>eb b o hb e) f0 f1 f3 f4 f5⟩
 self:=fun _ _ _ _ _ st h=>wpAny_pyIter_tupleiter st h
theorem CB {P:Program}{w:World}{K:zdg}{tg:Expr}(it:Addr)(lo:Int)(n:Nat):Turn P w K tg (DF lo n) [it] it (fun i h=>IsRangeIter h it (lo+(i:Nat)*1) ((n:Int)-(i:Nat)) 1) where
 mem:=by simp
 obj:=fun i h st b hb=>by
  have e:b=it:=by simpa using hb
  subst e;exact⟨_,st,fun v z=>by
   have z':Data.fields _=Data.cell v:=z;cases z'⟩
 keep:=fun i h h' st k=>k it ke _ st
 item:=by
  intro X hP hw hK hc i ä s σ H E I hf st hg;subst hP hw hK;obtain⟨f0,f1,f2,f3,f4,f5⟩:=hf it ke;have W:=Walks.range (prog:=X.prog) (w:=X.w) (I.ok.hd hc) it lo 1 n;refine W.item i s _ _ hg st fun v h' tk hv JP kk=>?_;obtain⟨t,rfl⟩:=hv;have I1:Inv X ä σ H { s with heap:=h',toks:=tk }:=I.turned (fun b o hb e=>kk b o (by simpa using hb) e) f0 f1 f3 f4 f5;refine⟨_,Z,EU (s:={ s with heap:=h',toks:=tk }) (n:="range_iterator") JP Z Z O ⟨.int (lo+i),H,I1,⟨t,?_⟩,⟨Z,Z⟩,JP,fun b hb=>(hf b hb).1⟩⟩;rw[b3]
 done:=by
  intro X hP hw hK hc i ä s σ H E I hf st hg;subst hP hw hK;obtain⟨f0,f1,f2,f3,f4,f5⟩:=hf it ke;exact jF (I.ok.hd hc) st (by have:n<=i:=hg;omega) fun h' eb=>⟨Z,I.turned (t':=s.toks) (fun b o hb e=>eb b o hb e) f0 f1 f3 f4 f5⟩
 self:=fun _ _ _ _ _ st h=>jG st h
section
variable {ä:List (Addr×Obj)}{s:Shared}{fp:List Addr}
variable {X:Cx}{tg:Expr}
def Qa (K:zdg)(tl:TE):TI:=fun σ H R=>tl σ H fun x H1=>∃a,x=.ref a/\(∃xs,kR K H1 a xs)/\R (Lv K a) H1
def Vx (K:zdg)(tl:TE):TI:=fun σ H R=>tl σ H fun x H1=>∃a,x=.ref a/\(∃xs,lX K H1 a xs)/\R (Wa K a) H1
theorem lG {l:Expr}{tl:TE}(hl:PE X l tl):PI X tg l (Qa X.K tl):=by
 intro ä s σ H R I h;refine nK (hl ä s σ H _ I h) fun v s1 ⟨x,H1,I1,r1,q1⟩=>?_;obtain⟨a,e,⟨xs,hq⟩,q⟩:=q1;subst e;cases r1;obtain⟨â,rv,p,hz⟩:=I1.list hq;refine wpAny_pyIter_list p.isList ?_;refine⟨s1.heap.objs.size,[s1.heap.objs.size],_,_,H1,Z,I1.kept (t':=s1.toks) fun b o e=>aM _ e,Ff a _,⟨_,bV _ Z,Z,Z⟩,fun b hb=>?_,q⟩;have e:b=s1.heap.objs.size:=by simpa using hb
 subst e;exact I1.Cq (aH _) (I1.hok.fresh (aH _))
theorem NK {l:Expr}{tl:TE}(hl:PE X l tl):PI X tg l (Vx X.K tl):=by
 intro ä s σ H R I h;refine nK (hl ä s σ H _ I h) fun v s1 ⟨x,H1,I1,r1,q1⟩=>?_;obtain⟨a,e,⟨xs,hq⟩,q⟩:=q1;subst e;cases r1;obtain⟨â,rv,p,hz⟩:=I1.tuple hq;refine wpAny_pyIter_tuple (show s1.heap.IsTuple a â.toArray from p) ?_;refine⟨s1.heap.objs.size,[s1.heap.objs.size],_,_,H1,Z,I1.kept (t':=s1.toks) fun b o e=>aM _ e,C3 a _,⟨_,bV _ Z,Z,Z⟩,fun b hb=>?_,q⟩;have e:b=s1.heap.objs.size:=by simpa using hb
 subst e;exact I1.Cq (aH _) (I1.hok.fresh (aH _))
theorem Bn {σ:St}{H:Hp}{R:It->Hp->Prop}{E:Value->Shared->Prop}{lo hi:Int}{t u v:Tok}{tk:Nat}(I:Inv X ä σ H s)(h1:-(2^62)<=lo)(h2:lo<2^62)(h3:-(2^62)<=hi)(h4:hi<2^62)
 (q:R (DF lo (hi-lo).toNat) H):wpAny (model X.prog X.w) X.A (pyIter (.ref s.heap.objs.size)) (ZT X ä σ tg R) E { s with heap:=s.heap.push { cls:=.type "range",data:=.fields #[.int lo t,.int hi u,.int 1 v] },toks:=tk }:=by
  refine wpAny_pyIter_range (j4 ..) (small_one h1 h2 h3 h4) ?_;have I1:Inv X ä σ H { s with heap:=s.heap.push { cls:=.type "range",data:=.fields #[.int lo t,.int hi u,.int 1 v] },toks:=tk }:=I.kept fun b o e=>aM _ e;refine⟨(s.heap.push { cls:=.type "range",data:=.fields #[.int lo t,.int hi u,.int 1 v] }).objs.size,[(s.heap.push { cls:=.type "range",data:=.fields #[.int lo t,.int hi u,.int 1 v] }).objs.size],_,_,H,Z,
    I1.kept (t':=tk) fun b o e=>aM _ e,CB _ lo (hi-lo).toNat,?_,fun b hb=>?_,q⟩
  · have e1:lo+((0:Nat):Int)*1=lo:=by simp
    have e2:(((hi-lo).toNat:Nat):Int)-((0:Nat):Int)=Builtin.Range.rangeSize lo hi 1:=by rw[rangeSize_one];split<;>omega
    show IsRangeIter _ _ (lo+((0:Nat):Int)*1) ((((hi-lo).toNat:Nat):Int)-((0:Nat):Int)) 1
    rw[e1,e2];exact bV _ Z
  · have e:b=(s.heap.push { cls:=.type "range",data:=.fields #[.int lo t,.int hi u,.int 1 v] }).objs.size:=by simpa using hb
    subst e;exact I1.Cq (aH _) (I1.hok.fresh (aH _))
def Rh (ta:TA):TI:=fun σ H R=>ta σ H fun vs H1=>∃j:Int,vs=[.int j]/\-(2^62)<=j/\j<2^62/\R (DF 0 j.toNat) H1
def Ro (ta:TA):TI:=fun σ H R=>ta σ H fun vs H1=>∃i j:Int,vs=[.int i,.int j]/\(-(2^62)<=i/\i<2^62/\-(2^62)<=j/\j<2^62)/\R (DF i (j-i).toNat) H1
theorem nM {a:Expr}{ta:TA}{p pos:Pos}(hg:Gl X "range")(hm:X.mg "range"=none)(ha:PA X [a] ta)(hs:starEach [a] X.env=[(false,eval a X.env)]:=by rfl):PI X tg (.Call (.Name "range" p) [a] [] pos) (Rh ta):=by
 intro ä s σ H R I h;refine Call_ (qG I hg hm boot_range (cF (nK (ha pos ä s σ H _ I h) fun us s1 ⟨vs,H1,I1,r1,q1⟩=>?_) hs Z));obtain⟨j,e,q1,q2,q⟩:=q1;subst e;cases r1 with
 | cons r rr =>
  cases rr;obtain⟨t,rfl⟩:=r;exact call_range_1 (Bn I1 kg kg q1 q2 (by simpa using q))
theorem Fq {a b:Expr}{ta:TA}{p pos:Pos}(hg:Gl X "range")(hm:X.mg "range"=none)(ha:PA X [a,b] ta)(hs:starEach [a,b] X.env=[(false,eval a X.env),(false,eval b X.env)]:=by rfl)(hs2:starEach [b] X.env=[(false,eval b X.env)]:=by rfl) :
  PI X tg (.Call (.Name "range" p) [a,b] [] pos) (Ro ta):=by
 intro ä s σ H R I h;refine Call_ (qG I hg hm boot_range (cF (nK (ha pos ä s σ H _ I h) fun us s1 ⟨vs,H1,I1,r1,q1⟩=>?_) (by rw[hs,hs2]) (by rw[hs2];rfl)));obtain⟨i,j,e,⟨q1,q2,q3,q4⟩,q⟩:=q1;subst e;cases r1 with
 | cons r rr =>
  cases rr with
  | cons r' rr =>
   cases rr;obtain⟨t,rfl⟩:=r;obtain⟨t',rfl⟩:=r';exact call_range_2 (Bn I1 q1 q2 q3 q4 q)
def Xo (wi:TI)(g:TG)(tb:TS):TS:=fun D σ H=>wi σ H fun ziS H1=>∃W:Nat->Nat->St->Hp->Prop,(∃m,W 0 m σ H1)/\∀i m σ H,W i m σ H ->
 (ziS.stop i H/\D.nx σ H)\/(ziS.go i H/\∃N:St->Hp->Prop,(∀mw H',N mw H'->∃m',m'<m/\W (i+1) m' mw H')/\∀x H',ziS.yld i H x H'->g x σ H' fun n8 H2=>tb { D with nx:=N,ct:=N,bk:=D.nx } n8 H2)
def xA (fp:List Addr)(h:Heap):List (Addr×Obj):=fp.filterMap fun b=>(h.get? b).map fun o=>(b,o)
theorem tW {h:Heap}{b:Addr}{o:Obj}(hb:b∈fp)(e:h.get? b=some o):(b,o)∈xA fp h:=List.mem_filterMap.mpr ⟨b,hb,by rw[e];rfl⟩
theorem FZ {h:Heap}{p:Addr×Obj}(hp:p∈xA fp h):p.1∈fp/\h.get? p.1=some p.2:=by
 obtain⟨b,hb,e⟩:=List.mem_filterMap.mp hp;cases q:h.get? b with
 | none=>rw[q] at e;cases e
 | some o =>
  rw[q] at e;have e':(b,o)=p:=bL e;subst e';exact⟨hb,q⟩
theorem Inv.pinned {σ:St}{H:Hp}(I:Inv X ä σ H s)(hf:∀b∈fp,zJ X ä H b)(ho:∀b∈fp,∃o,s.heap.get? b=some o/\∀v,o.data≠.cell v):Inv X (ä++xA fp s.heap) σ H s :=
 I.rp fun p hp=>(g6.mp hp).elim (fun z=>I.pin p (aZ _ z)) fun z=>by
  obtain⟨hb,e⟩:=FZ z;obtain⟨f0,f1,f2,_⟩:=hf p.1 hb;obtain⟨o,e',d⟩:=ho p.1 hb;rw[e] at e';cases e';exact⟨e,f0,f1,f2,d⟩
theorem Inv.xS {pl:List (Addr×Obj)}{σ:St}{H:Hp}(I:Inv X (ä++pl) σ H s):Inv X ä σ H s:=I.rp fun p hp=>I.pin p (aZ _ (cA _ hp))
theorem mD {iter:Expr}{body:List Stmt}{wi:TI}{g:TG}{tb:TS}{pos:Pos}(hp:PassesOwn (model X.prog X.w) X.A X.env X.xe)(hc:X.calm=true)(hi:PI X tg iter wi)(hg:PG X tg g)(hb:yu X body tb)
 (hs:∀x,foldedSetIterable iter X.env x=pure x:=by intro _;rfl):PS X (.For tg iter body [] pos) (Xo wi g tb):=by
  intro ä s σ H D I h;refine wpAny_For (nK (hi ä s σ H _ I h) fun v s1 h1=>nK h1 fun ME s2 h2=>?_) hs;obtain⟨it,fp,tn,ziS,H2,e,I2,T,MF,f2,W,⟨m0,w0⟩,turn⟩:=h2;subst e
  -- what stays true of the Oz objects through the loop
  have OA:∀{H':Hp},(∀b∈fp,H' b=none)->∀b∈fp,zJ X ä H' b:=fun hn b hb=>⟨hn b hb,(f2 b hb).2⟩;refine codeAny_forLoop_any (fun n s'=>∃i mw H',Inv X ä mw H' s'/\tn i s'.heap/\(∀b∈fp,H' b=none)/\W i n mw H') ?_ m0 ⟨0,σ,H2,I2,MF,fun b hb=>(f2 b hb).1,w0⟩;rintro n s3 ⟨i,Jt,H3,I3,RV,RW,w3⟩;rcases turn i n Jt H3 w3 with ⟨stop,qn⟩ | ⟨go,N,hN,step⟩
  · refine fE hp (nK (T.done X Z Z Z hc i ä s3 Jt H3 X.xe I3 (OA RW) RV stop) fun r s4 ⟨hr,I4⟩=>?_)
    subst hr;exact gg ⟨Jt,H3,I4,qn⟩
  · refine fE hp (nK (T.item X Z Z Z hc i ä s3 Jt H3 X.xe I3 (OA RW) RV go) fun r s4 ⟨u,hr,h4⟩=>?_)
    subst hr;refine fE hp (nK h4 fun _ s5 ⟨x,H5,I5,r5,y5,LA,X0⟩=>?_);have X1:=I5.pinned (OA X0) (T.obj _ _ LA);refine fE hp (nK (hg _ s5 Jt H5 x u _ X1 r5 (step x H5 y5)) fun _ s6 ⟨Pm,H6,I6,q6⟩=>?_);refine fE hp (nK (hb _ s6 Pm H6 _ I6 q6) fun f s7 q7=>?_);have again:∀{Ju:St}{H7:Hp},Inv X (ä++xA fp s5.heap) Ju H7 s7->N Ju H7->∃m,m<n/\∃i mw H',Inv X ä mw H' s7/\tn i s7.heap/\(∀b∈fp,H' b=none)/\W i m mw H':=fun {Ju H7} I7 n7=>by
      obtain⟨m',hm,w7⟩:=hN Ju H7 n7;refine⟨m',hm,i+1,Ju,H7,I7.xS,T.keep _ _ _ LA fun b hb o e=>(I7.pin (b,o) (aZ _ (aZ _ (tW hb e)))).1,fun b hb=>?_,w7⟩;obtain⟨o,e,d⟩:=T.obj _ _ LA b hb;exact(I7.pin (b,o) (aZ _ (aZ _ (tW hb e)))).2.1
    cases f with
    | next=>obtain⟨Ju,H7,I7,n7⟩:=q7;exact again I7 n7
    | cont=>obtain⟨Ju,H7,I7,n7⟩:=q7;exact again I7 n7
    | brk=>obtain⟨Ju,H7,I7,q7⟩:=q7;exact⟨Ju,H7,I7.xS,q7⟩
    | ret v=>obtain⟨x7,Ju,H7,I7,r7,q7⟩:=q7;exact⟨x7,Ju,H7,I7.xS,r7,q7⟩
end
theorem nu {K:zdg}{a:Addr}{xs:List V}{g:TG}{tb:TS}{D:Ends}{σ:St}{H:Hp}(Pv:Nat->St->Hp->Prop)(h0:Pv 0 σ H)(hl:∀i σ H,i<=xs.length->Pv i σ H->kR K H a xs)
  (hs:∀i x σ H,xs[i]?=some x->Pv i σ H->g x σ H fun n8 H2=>tb { D with nx:=Pv (i+1),ct:=Pv (i+1),bk:=D.nx } n8 H2)(hd:∀σ H,Pv xs.length σ H->D.nx σ H) :
  ∃W:Nat->Nat->St->Hp->Prop,(∃m,W 0 m σ H)/\∀i m σ H,W i m σ H ->
   ((Lv K a).stop i H/\D.nx σ H)\/((Lv K a).go i H/\∃N:St->Hp->Prop,(∀mw H',N mw H'->∃m',m'<m/\W (i+1) m' mw H')/\∀x H',(Lv K a).yld i H x H'->g x σ H' fun n8 H2=>tb { D with nx:=N,ct:=N,bk:=D.nx } n8 H2):=by
 refine⟨fun i m σ H=>m=xs.length-i/\i<=xs.length/\Pv i σ H,⟨xs.length,ke,Nat.zero_le _,h0⟩,?_⟩;rintro i m σ H ⟨rfl,hi,p⟩;have q:=hl i σ H hi p
 by_cases qy:i<xs.length
 .refine .inr ⟨⟨xs,xs[i],q,by simp[qy]⟩,Pv (i+1),fun mw H' p'=>⟨xs.length-(i+1),kg,Z,qy,p'⟩,fun x H' y=>?_⟩;obtain⟨e,y⟩:=y;subst e;exact hs i x σ _ (y xs q) p
 .have e:i=xs.length:=kg;subst e;exact .inl ⟨⟨xs,q,aH _⟩,hd σ H p⟩
theorem zt {lo:Int}{n:Nat}{g:TG}{tb:TS}{D:Ends}{σ:St}{H:Hp}(Pv:Nat->St->Hp->Prop)(h0:Pv 0 σ H)
  (hs:∀i σ H,i<n->Pv i σ H->g (.int (lo+i)) σ H fun n8 H2=>tb { D with nx:=Pv (i+1),ct:=Pv (i+1),bk:=D.nx } n8 H2)(hd:∀σ H,Pv n σ H->D.nx σ H) :
  ∃W:Nat->Nat->St->Hp->Prop,(∃m,W 0 m σ H)/\∀i m σ H,W i m σ H ->
   ((DF lo n).stop i H/\D.nx σ H)\/((DF lo n).go i H/\∃N:St->Hp->Prop,(∀mw H',N mw H'->∃m',m'<m/\W (i+1) m' mw H')/\∀x H',(DF lo n).yld i H x H'->g x σ H' fun n8 H2=>tb { D with nx:=N,ct:=N,bk:=D.nx } n8 H2):=by
 refine⟨fun i m σ H=>m=n-i/\i<=n/\Pv i σ H,⟨n,ke,Nat.zero_le _,h0⟩,?_⟩;rintro i m σ H ⟨rfl,hi,p⟩
 by_cases qy:i<n
 .refine .inr ⟨qy,Pv (i+1),fun mw H' p'=>⟨n-(i+1),kg,Z,qy,p'⟩,fun x H' y=>?_⟩;obtain⟨e,y⟩:=y;subst e y;exact hs i σ _ qy p
 .have e:i=n:=kg;subst e;exact .inl ⟨aH _,hd σ H p⟩
abbrev R2:=V->V->Hp->VK->Prop
def uT (X:Cx)(f:Value->Value->Sem Value)(r:R2):Prop :=
 ∀(ä:List (Addr×Obj))(s:Shared)(σ:St)(H:Hp)(x y:V)(v u:Value)(Q:VK),Inv X ä σ H s->RelV x v->RelV y u->r x y H Q ->
  wpAny (model X.prog X.w) X.A (f v u) (EP X ä σ Q) X.xe s
def WJ (X:Cx)(f:Value->Sem Value)(r:V->Hp->VK->Prop):Prop :=
 ∀(ä:List (Addr×Obj))(s:Shared)(σ:St)(H:Hp)(x:V)(v:Value)(Q:VK),Inv X ä σ H s->RelV x v->r x H Q ->
  wpAny (model X.prog X.w) X.A (f v) (EP X ä σ Q) X.xe s
def qh (X:Cx)(f:Value)(r:List V->Hp->VK->Prop):Prop :=
 ∀(ä:List (Addr×Obj))(s:Shared)(σ:St)(H:Hp)(xs:List V)(us:List Value)(Q:VK),Inv X ä σ H s->Vals xs us->r xs H Q ->
  wpAny (model X.prog X.w) X.A (call f us) (EP X ä σ Q) X.xe s
def Pe (r:R2)(ta tb:TE):TE:=fun σ H Q=>ta σ H fun x H1=>tb σ H1 fun y H2=>r x y H2 Q
def tUn (r:V->Hp->VK->Prop)(ta:TE):TE:=fun σ H Q=>ta σ H fun x H1=>r x H1 Q
def rI (C:Int->Int->Prop)(g:Int->Int->V):R2:=fun x y H Q=>∃i j,x=.int i/\y=.int j/\C i j/\Q (g i j) H
def Mi (g:Int->Int->V):R2:=fun x y H Q=>∃i j,x=.int i/\y=.int j/\Q (g i j) H
def rU (g:Int->V):V->Hp->VK->Prop:=fun x H Q=>∃i,x=.int i/\Q (g i) H
section
variable {f:Value->Value->Sem Value}{g:Int->Int->Int}
variable {X:Cx}{a b:Expr}{ta tb:TE}{pos:Pos}
theorem Nu (ha:PE X a ta)(hb:PE X b tb){ä:List (Addr×Obj)}{s:Shared}{σ:St}{H:Hp}{R:V->V->Hp->Prop}(I:Inv X ä σ H s)
 (h:ta σ H fun x H1=>tb σ H1 fun y H2=>R x y H2){Q:Value->Shared->Prop}
 (hf:∀v u s2 x y H2,Inv X ä σ H2 s2->RelV x v->RelV y u->R x y H2->wpAny (model X.prog X.w) X.A (f v u) Q X.xe s2) :
    wpAny (model X.prog X.w) X.A (eval a X.env) (fun v s₁=>wpAny (model X.prog X.w) X.A (eval b X.env) (fun u X2=>wpAny (model X.prog X.w) X.A (f v u) Q X.xe X2) X.xe s₁) X.xe s:=by
  refine nK (ha ä s σ H _ I h) fun v s1 ⟨x,H1,I1,r1,q1⟩=>?_;refine nK (hb ä s1 σ H1 _ I1 q1) fun u s2 ⟨y,H2,I2,r2,q2⟩=>?_;exact hf v u s2 x y H2 I2 r1 r2 q2
theorem kK {op:Operator}{r:R2}(ho:uT X (binaryOp op) r)(ha:PE X a ta)(hb:PE X b tb):PE X (.BinOp a op b pos) (Pe r ta tb):=by
 intro ä s σ H Q I h;exact wpAny_BinOp (Nu ha hb I h fun v u s2 x y H2 I2 rx ry q=>ho ä s2 σ H2 x y v u Q I2 rx ry q)
theorem sG {op:UnaryOp}{r:V->Hp->VK->Prop}(ho:WJ X (unaryOp op) r)(ha:PE X a ta):PE X (.UnaryOp op a pos) (tUn r ta):=by
 intro ä s σ H Q I h;exact UnaryOp_ (nK (ha ä s σ H _ I h) fun v s1 ⟨x,H1,I1,r1,q1⟩=>ho ä s1 σ H1 x v Q I1 r1 q1)
theorem RB {C:Int->Int->Prop}
 (rule:∀(i j:Int)(t u:Tok)(s:Shared)(Q:Value->Shared->Prop)(E:Value->Shared->Prop),C i j->Q (.int (g i j) s.toks) { s with toks:=s.toks+1 }->wpAny (model X.prog X.w) X.A (f (.int i t) (.int j u)) Q E s) :
    uT X f (rI C fun i j=>.int (g i j)):=by
  intro ä s σ H x y v u Q I rx ry h;obtain⟨i,j,rfl,rfl,hc,q⟩:=h;obtain⟨t,rfl⟩:=rx;obtain⟨t',rfl⟩:=ry;exact rule i j t t' s _ _ hc ⟨.int (g i j),H,I.tok _,⟨_,Z⟩,q⟩
theorem Qk
 (rule:∀(i j:Int)(t u:Tok)(s:Shared)(Q:Value->Shared->Prop)(E:Value->Shared->Prop),Q (.int (g i j) s.toks) { s with toks:=s.toks+1 }->wpAny (model X.prog X.w) X.A (f (.int i t) (.int j u)) Q E s) :
    uT X f (Mi fun i j=>.int (g i j)):=by
  intro ä s σ H x y v u Q I rx ry h;obtain⟨i,j,rfl,rfl,q⟩:=h;obtain⟨t,rfl⟩:=rx;obtain⟨t',rfl⟩:=ry;exact rule i j t t' s _ _ ⟨.int (g i j),H,I.tok _,⟨_,Z⟩,q⟩
theorem KC {g:Int->Int->Bool}
 (rule:∀(i j:Int)(t u:Tok)(s:Shared)(Q:Value->Shared->Prop)(E:Value->Shared->Prop),Q (.bool (g i j)) s->wpAny (model X.prog X.w) X.A (f (.int i t) (.int j u)) Q E s) :
    uT X f (Mi fun i j=>.bl (g i j)):=by
  intro ä s σ H x y v u Q I rx ry h;obtain⟨i,j,rfl,rfl,q⟩:=h;obtain⟨t,rfl⟩:=rx;obtain⟨t',rfl⟩:=ry;exact rule i j t t' s _ _ ⟨.bl (g i j),H,I,Z,q⟩
def Wz (i j:Int):Prop:=0<=j/\j<=1000000/\i.natAbs<2^64
def Rm (i j:Int):Prop:=(-(2^64)<i/\i<2^64)\/(-(2^64)<j/\j<2^64)
theorem Rm.ok {i j:Int}(h:Rm i j):IntMulOk i j:=by
 rcases h with ⟨h1,h2⟩ | ⟨h1,h2⟩
 .exact .of_left (gF h1 h2)
 .exact .of_right (gF h1 h2)
theorem DN (k:Nat):(0:Int)<=2^k:=by
 rw[two_pow_cast];exact jx _
theorem lU:uT X (binaryOp .Add) (Mi fun i j=>.int (i+j)):=Qk fun _ _ _ _ _ _ _ q=>add_int q
theorem nV:uT X (binaryOp .Sub) (Mi fun i j=>.int (i-j)):=Qk fun _ _ _ _ _ _ _ q=>sub_int q
theorem lO:uT X (binaryOp .Mod) (rI (fun _ j=>0<j) fun i j=>.int (i%j)):=RB fun i j _ _ _ _ _ hc q=>by
 have h1:(0:Int)<j:=hc;exact mod_int' kg (by rw[cW i kg];exact q)
theorem Dq:uT X (binaryOp .Pow) (rI Wz fun i j=>.int (i^j.toNat)):=RB fun _ _ _ _ _ _ _ hc q=>pow_int_small hc.1 hc.2.1 hc.2.2 q
theorem IR:uT X (binaryOp .RShift) (rI (fun _ j=>0<=j) fun i j=>.int (i/2^j.toNat)):=RB fun i j _ _ _ _ _ hc q =>
 rshift_int hc (by rw[eI i (DN _)];exact q)
theorem unI {f:Value->Sem Value}{g:Int->Int}
 (rule:∀(i:Int)(t:Tok)(s:Shared)(Q:Value->Shared->Prop)(E:Value->Shared->Prop),Q (.int (g i) s.toks) { s with toks:=s.toks+1 }->wpAny (model X.prog X.w) X.A (f (.int i t)) Q E s) :
    WJ X f (rU fun i=>.int (g i)):=by
  intro ä s σ H x v Q I rx h;obtain⟨i,rfl,q⟩:=h;obtain⟨t,rfl⟩:=rx;exact rule i t s _ _ ⟨.int (g i),H,I.tok _,⟨_,Z⟩,q⟩
theorem p7:WJ X (unaryOp .USub) (rU fun i=>.int (-i)):=unI fun _ _ _ _ _ q=>neg_int q
end
def P2:V->V->Bool
 | .non,.non=>true | .non,.int _=>true | .int _,.non=>true | .non,.bl _=>true | .bl _,.non=>true | .non,.str _=>true | .str _,.non=>true
 | .int _,.int _=>true | .bl _,.bl _=>true | .str _,.str _=>true | .byt _,.byt _=>true
 | .int _,.str _=>true | .str _,.int _=>true | .bl _,.str _=>true | .str _,.bl _=>true
 | _,_=>false
def rEq:R2:=fun x y H Q=>P2 x y=true/\Q (.bl (decide (x=y))) H
def rNe:R2:=fun x y H Q=>P2 x y=true/\Q (.bl (!decide (x=y))) H
theorem D9 {i j:Int}:decide (V.int i=V.int j)=(i == j):=by
 rw[fe];simp
theorem HI {i j:Bool}:decide (V.bl i=V.bl j)=(i == j):=by
 rw[fe];simp
theorem DZ {i j:Str}:decide (V.str i=V.str j)=(i == j):=by
 rw[fe];simp
theorem EZ {i j:Array UInt8}:decide (V.byt i=V.byt j)=(i.toList == j.toList):=by
 rw[fe];cases i;cases j;simp
section
variable {X:Cx}{a b c:Expr}{ta tb:TE}{pos:Pos}
theorem mi {ä:List (Addr×Obj)}{σ:St}{H:Hp}{s:Shared}{Q:VK}{k k':Bool}(I:Inv X ä σ H s)(q:Q (.bl k) H)(e:k=k'):EP X ä σ Q (.bool k') s:=by
 subst e;exact⟨.bl k,H,I,Z,q⟩
theorem nR:uT X (compareOp .Eq) rEq:=by
 intro ä s σ H x y v u Q I rx ry h;obtain⟨hs,q⟩:=h;cases x with
 | non =>
  cases rx;cases y with
  | non=>cases ry;exact PySem.EqNone.eq_none_none (mi I q ke)
  | bl j=>cases ry;exact PySem.EqNone.eq_none_bool (mi I q ke)
  | int j=>obtain⟨t',rfl⟩:=ry;exact PySem.EqNone.eq_none_int (mi I q ke)
  | str j=>obtain⟨t',rfl⟩:=ry;exact PySem.EqNone.eq_none_str (mi I q ke)
  | _=>exact absurd (show false=true from hs) aU
 | bl i =>
  cases rx;cases y with
  | non=>cases ry;exact PySem.EqNone.eq_bool_none (mi I q ke)
  | bl j=>cases ry;exact eq_bool (mi I q HI)
  | str j=>obtain⟨t',rfl⟩:=ry;exact PySem.EqMixed.eq_bool_str (mi I q ke)
  | _=>exact absurd (show false=true from hs) aU
 | int i =>
  obtain⟨t,rfl⟩:=rx;cases y with
  | non=>cases ry;exact PySem.EqNone.eq_int_none (mi I q ke)
  | int j=>obtain⟨t',rfl⟩:=ry;exact eq_int (mi I q D9)
  | str j=>obtain⟨t',rfl⟩:=ry;exact PySem.EqMixed.eq_int_str (mi I q ke)
  | _=>exact absurd (show false=true from hs) aU
 | str i =>
  obtain⟨t,rfl⟩:=rx;cases y with
  | non=>cases ry;exact PySem.EqNone.eq_str_none (mi I q ke)
  | bl j=>cases ry;exact PySem.EqMixed.eq_str_bool (mi I q ke)
  | int j=>obtain⟨t',rfl⟩:=ry;exact PySem.EqMixed.eq_str_int (mi I q ke)
  | str j=>obtain⟨t',rfl⟩:=ry;exact eq_str (mi I q DZ)
  | _=>exact absurd (show false=true from hs) aU
 | byt i =>
  obtain⟨t,rfl⟩:=rx;cases y with
  | byt j=>obtain⟨t',rfl⟩:=ry;exact PySem.W.eq_bytes (mi I q EZ)
  | _=>exact absurd (show false=true from hs) aU
 | _=>cases y<;>exact absurd (show false=true from hs) Bool.false_ne_true
theorem oN:uT X (compareOp .NotEq) rNe:=by
 intro ä s σ H x y v u Q I rx ry h;obtain⟨hs,q⟩:=h;cases x with
 | non =>
  cases rx;cases y with
  | non=>cases ry;exact PySem.EqNone.ne_none_none (mi I q ke)
  | bl j=>cases ry;exact PySem.EqNone.ne_none_bool (mi I q ke)
  | int j=>obtain⟨t',rfl⟩:=ry;exact PySem.EqNone.ne_none_int (mi I q ke)
  | str j=>obtain⟨t',rfl⟩:=ry;exact PySem.EqNone.ne_none_str (mi I q ke)
  | _=>exact absurd (show false=true from hs) aU
 | bl i =>
  cases rx;cases y with
  | non=>cases ry;exact PySem.EqNone.ne_bool_none (mi I q ke)
  | bl j=>cases ry;exact ne_bool (mi I q (congrArg not HI))
  | str j=>obtain⟨t',rfl⟩:=ry;exact PySem.EqMixed.ne_bool_str (mi I q ke)
  | _=>exact absurd (show false=true from hs) aU
 | int i =>
  obtain⟨t,rfl⟩:=rx;cases y with
  | non=>cases ry;exact PySem.EqNone.ne_int_none (mi I q ke)
  | int j=>obtain⟨t',rfl⟩:=ry;exact ne_int (mi I q (congrArg not D9))
  | str j=>obtain⟨t',rfl⟩:=ry;exact PySem.EqMixed.ne_int_str (mi I q ke)
  | _=>exact absurd (show false=true from hs) aU
 | str i =>
  obtain⟨t,rfl⟩:=rx;cases y with
  | non=>cases ry;exact PySem.EqNone.ne_str_none (mi I q ke)
  | bl j=>cases ry;exact PySem.EqMixed.ne_str_bool (mi I q ke)
  | int j=>obtain⟨t',rfl⟩:=ry;exact PySem.EqMixed.ne_str_int (mi I q ke)
  | str j=>obtain⟨t',rfl⟩:=ry;exact ne_str (mi I q (congrArg not DZ))
  | _=>exact absurd (show false=true from hs) aU
 | byt i =>
  obtain⟨t,rfl⟩:=rx;cases y with
  | byt j=>obtain⟨t',rfl⟩:=ry;exact PySem.W.ne_bytes (mi I q (congrArg not EZ))
  | _=>exact absurd (show false=true from hs) aU
 | _=>cases y<;>exact absurd (show false=true from hs) Bool.false_ne_true
theorem A2:uT X (compareOp .Lt) (Mi fun i j=>.bl (decide (i<j))):=KC fun _ _ _ _ _ _ _ q=>lt_int q
theorem EJ:uT X (compareOp .LtE) (Mi fun i j=>.bl (decide (i<=j))):=KC fun _ _ _ _ _ _ _ q=>le_int q
theorem tI:uT X (compareOp .Gt) (Mi fun i j=>.bl (decide (j<i))):=KC fun _ _ _ _ _ _ _ q=>gt_int q
theorem Ms:uT X (compareOp .GtE) (Mi fun i j=>.bl (decide (j<=i))):=KC fun _ _ _ _ _ _ _ q=>ge_int q
theorem Aw:uT X (compareOp .Is) (fun x y H Q=>y=.non/\Q (.bl (decide (x=.non))) H):=by
 intro ä s σ H x y v u Q I rx ry h;obtain⟨rfl,q⟩:=h;cases ry;refine is_none_gen (mi I q ?_);cases x<;>first
  | (cases rx;rfl)
  | (obtain⟨t,rfl⟩:=rx;rfl)
theorem Kl:uT X (compareOp .IsNot) (fun x y H Q=>y=.non/\Q (.bl (!decide (x=.non))) H):=by
 intro ä s σ H x y v u Q I rx ry h;obtain⟨rfl,q⟩:=h;cases ry;refine isnot_none_gen (mi I q ?_);cases x<;>first
  | (cases rx;rfl)
  | (obtain⟨t,rfl⟩:=rx;rfl)
theorem oO (b:Expr){op:CmpOp}(h:op≠.In:=by decide)(h2:op≠.NotIn:=by decide):behindInMarks op b=false:=by
 have e1:(op == CmpOp.In)=false:=by cases op<;>first | rfl | exact absurd Z h
 have e2:(op == CmpOp.NotIn)=false:=by cases op<;>first | rfl | exact absurd Z h2
 cases b<;>simp[behindInMarks,e1,e2]
theorem nX {op:CmpOp}{r:R2}(ho:uT X (compareOp op) r)(ha:PE X a ta)(hb:PE X b tb)(hm:behindInMarks op b=false):PE X (.Compare a [op] [b] pos) (Pe r ta tb):=by
 intro ä s σ H Q I h;exact wpAny_Compare1 (Nu ha hb I h fun v u s2 x y H2 I2 rx ry q=>ho ä s2 σ H2 x y v u Q I2 rx ry q) hm
def Me (t:TE):TT:=fun σ H Q=>t σ H fun x H'=>∃k,x=.bl k/\Q k H'
theorem EM {op:CmpOp}{r:R2}(ho:uT X (compareOp op) r)(ha:PE X a ta)(hb:PE X b tb)(hm:behindInMarks op b=false):PT X (.Compare a [op] [b] pos) (Me (Pe r ta tb)):=by
 intro ä s σ H Q I h;refine wpAny_isTrue_Compare1 (nK (ha ä s σ H _ I h) fun v s1 ⟨x,H1,I1,r1,q1⟩=>nK (hb ä s1 σ H1 _ I1 q1) fun u s2 ⟨y,H2,I2,r2,q2⟩ =>
  nK (ho ä s2 σ H2 x y v u _ I2 r1 r2 q2) fun c s3 ⟨z,H3,I3,r3,k,e,q3⟩=>?_) hm
 subst e;cases r3;exact fR ⟨H3,I3,q3⟩
theorem AA:(sizeLine:Nat)<2^63:=by rw[sizeLine_eq];decide
theorem vals1 {x:V}{us:List Value}(r:Vals [x] us):∃u,us=[u]/\RelV x u:=by
 cases r with
 | cons r1 r2=>cases r2;exact⟨_,Z,r1⟩
theorem vals2 {x y:V}{us:List Value}(r:Vals [x,y] us):∃u w',us=[u,w']/\RelV x u/\RelV y w':=by
 cases r with
 | cons r1 r2 =>
  cases r2 with
  | cons r3 r4=>cases r4;exact⟨_,_,Z,r1,r3⟩
theorem qa:qh X (.builtin "abs") (fun xs H Q=>∃i,xs=[.int i]/\Q (.int (if i<0 then -i else i)) H):=by
 intro ä s σ H xs us Q I r h;obtain⟨i,rfl,q⟩:=h;obtain⟨u,rfl,t,rfl⟩:=vals1 r;exact call_abs_int fun u tk=>⟨.int (if i<0 then -i else i),H,I.tok _,⟨_,Z⟩,q⟩
theorem zd (hc:X.calm=true):qh X (.builtin "max") (fun xs H Q=>∃i j,xs=[.int i,.int j]/\Q (.int (if j > i then j else i)) H):=by
 intro ä s σ H xs us Q I r h;obtain⟨i,j,rfl,q⟩:=h;obtain⟨u,w',rfl,⟨t,rfl⟩,⟨t',rfl⟩⟩:=vals2 r;refine max_two_ints (I.ok.hd hc) fun h' tk k=>⟨_,H,I.kept k,?_,q⟩
 by_cases hj:j > i
 .rw[aB hj,aB hj];exact⟨_,Z⟩
 .rw[ak hj,ak hj];exact⟨_,Z⟩
theorem y9 (hc:X.calm=true):qh X (.builtin "min") (fun xs H Q=>∃i j,xs=[.int i,.int j]/\Q (.int (if j<i then j else i)) H):=by
 intro ä s σ H xs us Q I r h;obtain⟨i,j,rfl,q⟩:=h;obtain⟨u,w',rfl,⟨t,rfl⟩,⟨t',rfl⟩⟩:=vals2 r;refine min_two_ints (I.ok.hd hc) fun h' tk k=>⟨_,H,I.kept k,?_,q⟩
 by_cases hj:j<i
 .rw[aB hj,aB hj];exact⟨_,Z⟩
 .rw[ak hj,ak hj];exact⟨_,Z⟩
theorem Fh:qh X (.type "int") (fun xs H Q=>(∃i,xs=[.int i]/\Q (.int i) H)\/∃k,xs=[.bl k]/\Q (.int (if k then 1 else 0)) H):=by
 intro ä s σ H xs us Q I r h;rcases h with ⟨i,rfl,q⟩ | ⟨k,rfl,q⟩
 .obtain⟨u,rfl,t,rfl⟩:=vals1 r;exact call_int_int ⟨.int i,H,I,⟨_,Z⟩,q⟩
 .obtain⟨u,rfl,r1⟩:=vals1 r;cases r1;exact call_int_bool ⟨.int (if k then 1 else 0),H,I.tok _,⟨_,Z⟩,q⟩
end
structure DC (h:Heap)(x dx C:Addr)(mA:Str->Option Value):Prop where
 obj:h.get? x=some (PySem.W.instObj C dx)
 ns:h.Ns1 dx mA
 ne:dx≠x
theorem F0 {h:Heap}{dx:Addr}{mA:Str->Option Value}(n:h.Ns1 dx mA):∃od,h.get? dx=some od/\∀name,PySem.W.lookIn name od=some (mA name):=by
 obtain⟨o,es,ep,ho,hd,hk,_,hm⟩:=n;refine⟨o,ho,fun name=>?_⟩;have e:=hm name;unfold nsFind findBy at e;rw[<-Array.find?_toList] at e;unfold PySem.W.lookIn;rw[hd];dsimp only;split
 .rename_i y q;rw[q] at e;exact cU some e
 .rename_i q;rw[q] at e;have a:es.toList.any (·.refKey)=false:=by
   rw[List.any_eq_false];intro y hy;obtain⟨z,t,X3⟩:=hk y (Array.mem_toList_iff.mp hy);simp[DictEntry.refKey,X3]
  have a':¬es.toList.any (·.refKey)=true:=by rw[a];exact aU
  rw[ak a'];exact cU some e
theorem DC.look {h:Heap}{x dx C:Addr}{mA:Str->Option Value}(I:DC h x dx C mA):∃od,PySem.W.InstAt h x (PySem.W.instObj C dx) C (some od)/\∀name,PySem.W.lookIn name od=some (mA name) :=
 let ⟨od,ho,hl⟩:=F0 I.ns
 ⟨od,⟨I.obj,Z,Z,ho⟩,hl⟩
section
variable {prog:Program}{w:World}{A:Around}{E:Value->Shared->Prop}{s:Shared}{K:zdg}{x dx C f:Addr}{mA:Str->Option Value}{name:Str}{v:Value}
theorem get_map {expr:Bool}{Q:Value->Shared->Prop}(X:K.In s.heap)(I:DC s.heap x dx C mA)(hg:PySem.W.plainGet K C name=true)(hh:PySem.W.hasDictIn K C=true)
  (ha:PySem.W.findIn K (.ref C) name=some none)(hv:mA name=some v)(hv':PySem.W.handedIn v=true)(h:Q v { s with toks:=s.toks+1 }) :
  wpAny (model prog w) A (getAttr (.ref x) name expr) Q E s:=by
 obtain⟨od,ziS,hl⟩:=I.look;exact PySem.W.get_value X ziS (ib hg).1 (PySem.W.findObj_own hh ha Z (by rw[hl,hv])) hv' h
theorem G3 {pl:Sem Bool}{Q:Value×List Value->Shared->Prop}(X:K.In s.heap)(I:DC s.heap x dx C mA)(hg:PySem.W.plainGet K C name=true)
  (hf:PySem.W.findIn K (.ref C) name=some (some (.ref f)))(ht:PySem.W.isFn K (.ref f)=true)(hv:mA name=none)(h:Q (.ref f,[.ref x]) s) :
  wpAny (model prog w) A (getMethod (.ref x) name pl) Q E s:=by
 obtain⟨od,ziS,hl⟩:=I.look;exact PySem.W.method_fn X ziS (ib hg).1 (ib hg).2 hf (gY.mp ht) (by show (PySem.W.lookIn name od).map (·.isSome)=some false;rw[hl,hv];rfl) h
theorem Km {ns:List Str}{Q:Unit->Shared->Prop}(X:K.In s.heap)(I:DC s.heap x dx C mA)
  (hs:PySem.W.findIn K (.ref C) "__setattr__"=some (some (.builtin "object.__setattr__")))(hp:PySem.W.plainOver K C=true)(ht:PySem.W.takerIn K C name=some none)(hh:PySem.W.hasDictIn K C=true)
  (hw:PySem.Within mA ns)(hsz:ns.length<=sizeLine)
  (h:∀h',DC h' x dx C (fun y=>if y=name then some v else mA y)->Heap.SameBut dx s.heap h'->Q () { s with heap:=h',toks:=s.toks+2 }) :
  wpAny (model prog w) A (setAttr (.ref x) name v) Q E s:=by
 obtain⟨od,ziS,hl⟩:=I.look;refine PySem.W.set_plain X ziS hs (PySem.W.osa_open (s:={ s with toks:=s.toks+1 }) (r:=none) X ziS hp ht fun b=>?_);obtain⟨cd,hc,Pk⟩:=PySem.W.any_some hh;have hx:s.heap.get? x=some ⟨.ref C,some dx,.plain,#[]⟩:=I.obj;refine aO (bX (aO (aO (wpAny_loadPart hx (aO (PySem.W.Looks.here (s:={ s with toks:=s.toks+1 }) (PySem.W.looks_clsIn X hc) ?_))))));rw[Pk];refine bX (a:=some dx) (aO (bX (aO ?_)));refine wpAny_nsSet1 (s:={ s with toks:=s.toks+1 }) I.ns fun h' TR hs2=>?_;obtain⟨oD,esD,epD,hoD,hdD,hcD⟩:=TR.count (PySem.Within.cons name v hw);refine aO (wpAny_lookBehind hoD (by rw[hdD];exact pastItsLine_dict (bQ hcD (by rw[bE];omega))) ?_);exact bX (h _ ⟨(hs2.2 _ (cM I.ne)).trans I.obj,TR,I.ne⟩ hs2)
theorem HW {R:Result->Shared->Prop}{vs:List Value}{kw:List (Str×Value)}(X:K.In s.heap)(hm:PySem.W.makesIn K C=true)
  (hi:PySem.W.findIn K (.ref C) "__init__"=some (some (.ref f)))(hf:PySem.W.typeIn K (.ref f)=some (.type "function"))
  (h:codeAny (model prog w) (A.under (.builtin "type.__call__" ⟨.ref C::vs,kw⟩)) (.call (.ref f) ⟨.ref (s.heap.objs.size+1)::vs,kw⟩) (PySem.W.InitBack (s.heap.objs.size+1) R)
   { s with heap:=(s.heap.push PySem.W.emptyDict).push (PySem.W.instObj C s.heap.objs.size) }) :
  codeAny (model prog w) A (.call (.ref C) ⟨vs,kw⟩) R s:=by
 obtain⟨hh,g,d,t,os⟩:=s;exact PySem.W.make_core (PySem.W.makes_of X hm) (jo X hi) (fun self=>PySem.W.bind_fn X self hf) (.inl Z) h
end
def oa (f:Str)(v:V):List (Str×V)->List (Str×V)
 | []=>[(f,v)]
 | (g,x)::r=>if g=f then (g,v)::r else (g,x)::oa f v r
theorem kJ (f g:Str)(v:V):∀fs:List (Str×V),(oa f v fs).lookup g=if g=f then some v else fs.lookup g
 | []=>by
  show List.lookup g [(f,v)]=_
  by_cases h:g=f
  .have hb:(g == f)=true:=gY.mpr h;simp only[List.lookup,hb,if_pos h]
  .have hb:(g == f)=false:=gz.mpr h;simp only[List.lookup,hb,if_neg h]
 | (k,x)::r=>by
  have ih:=kJ f g v r;rw[show oa f v ((k,x)::r)=(if k=f then (k,v)::r else (k,x)::oa f v r) from Z]
  by_cases hk:k=f
  .rw[aB hk]
   by_cases h:g=k
   .have hb:(g == k)=true:=gY.mpr h;simp only[List.lookup,hb,if_pos (h.trans hk)]
   .have hb:(g == k)=false:=gz.mpr h;simp only[List.lookup,hb,if_neg (fun e:g=f=>h (e.trans hk.symm))]
  .rw[ak hk]
   by_cases h:g=k
   .have hb:(g == k)=true:=gY.mpr h;simp only[List.lookup,hb,if_neg (fun e:g=f=>hk (h.symm.trans e))]
   .have hb:(g == k)=false:=gz.mpr h;simp only[List.lookup,hb];exact ih
theorem vj (f:Str)(v:V):∀fs:List (Str×V),f∈(oa f v fs).map (·.1)/\∀g,g∈fs.map (·.1)->g∈(oa f v fs).map (·.1)
 | []=>⟨by simp[oa],fun g h=>by simp at h⟩
 | (k,x)::r=>by
  obtain⟨i1,i2⟩:=vj f v r;rw[show oa f v ((k,x)::r)=(if k=f then (k,v)::r else (k,x)::oa f v r) from Z]
  by_cases hk:k=f
  .rw[aB hk];subst hk;exact⟨ke,fun g h=>by simpa using h⟩
  .rw[ak hk];refine⟨?_,fun g h=>?_⟩
   .rw[c5];exact ar _ i1
   .rw[c5] at h ⊢;rcases List.mem_cons.mp h with e | e
    .exact fT.mpr (.inl e)
    .exact ar _ (i2 g e)
theorem vL (f:Str)(v:V):∀fs:List (Str×V),(oa f v fs).length<=fs.length+1
 | []=>by simp[oa]
 | (k,x)::r=>by
  have ih:=vL f v r;rw[show oa f v ((k,x)::r)=(if k=f then (k,v)::r else (k,x)::oa f v r) from Z]
  by_cases hk:k=f
  .rw[aB hk,bE,bE];omega
  .rw[ak hk,bE,bE];omega
theorem v8.some_of {v:V}{o:Option Value}(r:v8 (some v) o):∃u,o=some u/\RelV v u:=by
 cases o with
 | none=>exact(show eC from r).elim
 | some u=>exact⟨u,Z,r⟩
theorem v8.none_of {o:Option Value}(r:v8 none o):o=none:=by
 cases o with
 | none=>rfl
 | some u=>exact(show eC from r).elim
theorem F9 {v:V}{u:Value}(r:RelV v u):PySem.W.handedIn u=true:=by
 cases v with
 | non=>cases (show u=Value.none from r);rfl
 | bl b=>cases (show u=Value.bool b from r);rfl
 | int i=>obtain⟨t,e⟩:=(show ∃t,u=Value.int i t from r);cases e;rfl
 | str x=>obtain⟨t,e⟩:=(show ∃t,u=Value.str x t from r);cases e;rfl
 | byt b=>obtain⟨t,e⟩:=(show ∃t,u=Value.bytes b t from r);cases e;rfl
 | flt b=>obtain⟨t,e⟩:=(show ∃t,u=Value.float b t from r);cases e;rfl
 | ref a=>cases (show u=Value.ref a from r);rfl
 | ty n=>cases (show u=Value.type n from r);rfl
section
variable {P:Program}{w:World}{H:Hp}{h:Heap}{a C dx:Addr}{fs:List (Str×V)}
theorem wo (hok:vh P w H h)(e:H a=some (.ins C dx fs)):∃mA,DC h a dx C mA/\(∀f,v8 (fs.lookup f) (mA f))/\PySem.Within mA (fs.map (·.1))/\fs.length<=1000/\H dx=some (.own a):=by
 obtain⟨d,z,ne,ob,mA,n,r,q⟩:=(show nE P w H h a (.ins C dx fs) from hok a _ e);exact⟨mA,⟨ob,n,ne⟩,r,q,z,d⟩
end
structure Gp (K:zdg)(C:Addr):Prop where
 pg:PySem.W.plainGet K C Str.empty=true
 hd:PySem.W.hasDictIn K C=true
 po:PySem.W.plainOver K C=true
 sa:PySem.W.findIn K (.ref C) "__setattr__"=some (some (.builtin "object.__setattr__"))
theorem Gp.get {K:zdg}{C:Addr}(c:Gp K C)(f:Str):PySem.W.plainGet K C f=true:=c.pg
def oH (K:zdg)(C:Addr)(f:Str):Prop:=PySem.W.findIn K (.ref C) f=some none
theorem oH.P3 {K:zdg}{C:Addr}{f:Str}(n:oH K C f):PySem.W.takerIn K C f=some none:=by
 unfold PySem.W.takerIn;rw[show PySem.W.findIn K (.ref C) f=some none from n];rfl
structure Meth (K:zdg)(C:Addr)(m:Str)(f:Addr):Prop where
 at_:PySem.W.findIn K (.ref C) m=some (some (.ref f))
 fn:PySem.W.isFn K (.ref f)=true
 kp:PySem.W.keepIn K (.ref f)=true
section
variable {Q:Value->Shared->Prop}
variable {X:Cx}{ä:List (Addr×Obj)}{σ:St}{H:Hp}{s:Shared}{a C dx:Addr}{fs:List (Str×V)}{f:Str}{v:V}{A:Around}{E:Value->Shared->Prop}
theorem Dh {b:Bool}(I:Inv X ä σ H s)(e:H a=some (.ins C dx fs))(c:Gp X.K C)(n:oH X.K C f)(l:fs.lookup f=some v)
 (h:∀u s',Inv X ä σ H s'->RelV v u->Q u s'):wpAny (model X.prog X.w) A (getAttr (.ref a) f b) Q E s:=by
  obtain⟨mA,ziT,r,_,_,_⟩:=wo I.hok e;obtain⟨u,hu,ru⟩:=v8.some_of (v:=v) (o:=mA f) (by rw[<-l];exact r f);exact get_map I.t5 ziT (c.get f) c.hd n hu (F9 ru) (h u _ (I.tok _) ru)
theorem C2 {m:Str}{g:Addr}{pl:Sem Bool}{Q:Value×List Value->Shared->Prop}(I:Inv X ä σ H s)(e:H a=some (.ins C dx fs))(c:Gp X.K C)(k:Meth X.K C m g)(l:fs.lookup m=none)
 (h:Q (.ref g,[.ref a]) s):wpAny (model X.prog X.w) A (getMethod (.ref a) m pl) Q E s:=by
  obtain⟨mA,ziT,r,_,_,_⟩:=wo I.hok e;have hn:mA m=none:=v8.none_of (by rw[<-l];exact r m);exact G3 I.t5 ziT (c.get m) k.at_ k.fn hn h
theorem DA {y:V}{u:Value}{Q:Unit->Shared->Prop}(I:Inv X ä σ H s)(e:H a=some (.ins C dx fs))(c:Gp X.K C)(n:oH X.K C f)(hl:fs.length<1000)(ry:RelV y u)
 (h:∀s',Inv X ä σ (upd H a (.ins C dx (oa f y fs))) s'->Q () s'):wpAny (model X.prog X.w) A (setAttr (.ref a) f u) Q E s:=by
  obtain⟨mA,ziT,r,wi,_,ho⟩:=wo I.hok e;have hz:(fs.map (·.1)).length<=sizeLine:=by rw[aa,sizeLine_eq];omega
  refine Km I.t5 ziT c.sa c.po n.P3 c.hd wi hz fun h' O' sb=>h _ ?_;have hd:∃o,h'.get? dx=some o:=let ⟨o,_,_,e',_⟩:=O'.ns;⟨o,e'⟩;refine I.write (x:=a) (e:=dx) (by rw[e];exact True.intro) (.inr ho) (fun b q hb z=>(sb.2 b hb).trans z) hd ?_;refine⟨by rw[kO ziT.ne];exact ho,?_,ziT.ne,O'.obj,_,O'.ns,fun g=>?_,fun g hg=>?_⟩
  · have:=vL f y fs;omega
  · show v8 ((oa f y fs).lookup g) (if g=f then some u else mA g)
    rw[kJ]
    by_cases q:g=f
    · rw[aB q,aB q];exact ry
    · rw[ak q,ak q];exact r g
  · by_cases q:g=f
    · rw[q];exact(vj f y fs).1
    · refine(vj f y fs).2 g (wi g fun z=>hg ?_)
      show (if g=f then some u else mA g)=none
      rw[ak q];exact z
theorem Inv.made (I:Inv X ä σ H s):Inv X ä σ (upd (upd H s.heap.objs.size (.own (s.heap.objs.size+1))) (s.heap.objs.size+1) (.ins C s.heap.objs.size []))
  { s with heap:=(s.heap.push PySem.W.emptyDict).push (PySem.W.instObj C s.heap.objs.size) }:=by
 have e1:(s.heap.push PySem.W.emptyDict).get? s.heap.objs.size=some PySem.W.emptyDict:=bV s.heap Z;have e2:((s.heap.push PySem.W.emptyDict).push (PySem.W.instObj C s.heap.objs.size)).get? (s.heap.objs.size+1)=some (PySem.W.instObj C s.heap.objs.size):=by
  have:=bV (s.heap.push PySem.W.emptyDict) (o:=PySem.W.instObj C s.heap.objs.size) Z;rwa [ii] at this
 have e3:(s.heap.push PySem.W.emptyDict).Ns s.heap.objs.size (fun _=>none):=⟨PySem.W.emptyDict,#[],_,e1,Z,(fun e he=>absurd he ke),fun _=>Z⟩;have I1:=I.laid (a:=s.heap.objs.size) (o:=.own (s.heap.objs.size+1)) (h':=s.heap.push PySem.W.emptyDict) (t':=s.toks) (fun b u q=>aM _ q) (aH _) ⟨_,e1⟩;refine I1.laid (a:=s.heap.objs.size+1) (o:=.ins C s.heap.objs.size []) (t':=s.toks) (fun b u q=>aM _ q) (iX (ii _ _)) ?_;have ne:s.heap.objs.size≠s.heap.objs.size+1:=cy (bO _);refine⟨by rw[kO ne,ko],cX _,ne,e2,fun _=>none,(Heap.Ns1.of_empty e3).at fun o q=>aM _ q,fun _=>True.intro,fun y hy=>absurd Z hy⟩
theorem Lr {prog:Program}{w:World}{env:Env}{e:Expr}{f:Str}{pos:Pos}{s:Shared}(hb:attributeBase e f env (eval e env)=eval e env)
 (h:wpAny (model prog w) A (eval e env) (fun o s₁=>wpAny (model prog w) A (getAttr o f true) Q E s₁) E s):wpAny (model prog w) A (eval (.Attribute e f pos) env) Q E s :=
  Attribute_any_ h (by rw[arm_eval_Attribute,hb])
end
def Qc (K:zdg)(ta:TE)(f:Str):TE:=fun σ H Q=>ta σ H fun x H1=>∃a C dx fs v,x=.ref a/\H1 a=some (.ins C dx fs)/\Gp K C/\oH K C f/\fs.lookup f=some v/\Q v H1
def UU (K:zdg)(ta tv:TE)(f:Str):TS:=fun D σ H=>tv σ H fun y H1=>ta σ H1 fun x H2=>∃a C dx fs,x=.ref a/\H2 a=some (.ins C dx fs)/\Gp K C/\oH K C f/\fs.length<1000 /\
 D.nx σ (upd H2 a (.ins C dx (oa f y fs)))
section
variable {X:Cx}{o e value:Expr}{f:Str}{pos pos':Pos}{ta tv:TE}
theorem nH (he:PE X e ta)(hb:attributeBase e f X.env (eval e X.env)=eval e X.env):PE X (.Attribute e f pos) (Qc X.K ta f):=by
 intro ä s σ H Q I h;refine Lr hb (nK (he ä s σ H _ I h) fun u s1 ⟨x,H1,I1,rx,a,C,dx,fs,v,ex,ea,c,n,l,q⟩=>?_);subst ex;obtain rfl:u=Value.ref a:=rx;exact Dh I1 ea c n l fun u' s2 I2 ru=>⟨v,H1,I2,ru,q⟩
theorem sL (ha:PE X o ta)(hv:PE X value tv)(hs:swapsWith value (some (.Attribute o f pos')) pos.line X.env=pure false):PS X (.Assign [.Attribute o f pos'] value pos) (UU X.K ta tv f):=by
 intro ä s σ H D I h;refine plainObj_wpAny_Assign_Attribute (nK (hv ä s σ H _ I h) fun u s1 ⟨y,H1,I1,ry,q⟩=>nK (ha ä s1 σ H1 _ I1 q) fun ov s2 ⟨x,H2,I2,rx,a,C,dx,fs,ex,ea,c,n,l,q2⟩=>?_) hs;subst ex;obtain rfl:ov=Value.ref a:=rx;exact DA I2 ea c n l ry fun s3 I3=>⟨σ,_,I3,q2⟩
end
section
variable {X:Cx}{ä:List (Addr×Obj)}{σ:St}{H:Hp}{s:Shared}{A:Around}{E:Value->Shared->Prop}{Q:Value->Shared->Prop}{c:Value}{b:Bool}
inductive vo (K:zdg)(H:Hp):V->Value->Prop where
 | non:vo K H .non (.type "NoneType")
 | bl (x:Bool):vo K H (.bl x) (.type "bool")
 | int (i:Int):vo K H (.int i) (.type "int")
 | str (x:Str):vo K H (.str x) (.type "str")
 | flt (x:UInt64):vo K H (.flt x) (.type "float")
 | lst {a:Addr}{xs:List V}(e:H a=some (.lst xs)):vo K H (.ref a) (.type "list")
 | frz {a:Addr}{o:Obj}{xs:List V}(e:H a=some (.frz o (.lst xs))):vo K H (.ref a) (.type "list")
 | tup {a:Addr}{xs:List V}(e:H a=some (.tup xs)):vo K H (.ref a) (.type "tuple")
 | dK {a:Addr}{kvs:List (Key×V)}(e:H a=some (.dK kvs)):vo K H (.ref a) (.type "dict")
 | dT {a:Addr}{kvs:List (List Key×V)}(e:H a=some (.dT kvs)):vo K H (.ref a) (.type "dict")
 | ins {a C dx:Addr}{fs:List (Str×V)}(e:H a=some (.ins C dx fs))(cl:Gp K C)(ha:PySem.W.findIn K (.ref C) "__class__"=some (some (.builtin "object.__class__")))
   (hn:PySem.W.specialIn K (.builtin "object.__class__") "__get__"=some (some (.builtin "getset_descriptor.__get__")))(htk:PySem.W.takesIn K (.builtin "object.__class__")=some true)
   (hm:PySem.W.mroIn K C (.type "object")=some true):vo K H (.ref a) (.ref C)
theorem Gd {x:V}{u t:Value}(I:Inv X ä σ H s)(rx:RelV x u)(ty:vo X.K H x t)(e:PySem.W.kitOne X.K t c=some b)(h:∀tk,Q (.bool b) { s with toks:=tk }) :
  wpAny (model X.prog X.w) A (call (.builtin "isinstance") [u,c]) Q E s:=by
 cases ty with
 | non=>cases (show u=Value.none from rx);exact PySem.W.kia_one PySem.W.kitx_none I.t5 True.intro e (fun z=>nomatch z) h
 | bl y=>cases (show u=Value.bool y from rx);exact PySem.W.kia_one PySem.W.kitx_bool I.t5 True.intro e (fun z=>nomatch z) h
 | int i=>obtain⟨t,q⟩:=(show ∃t,u=Value.int i t from rx);cases q;exact PySem.W.kia_one PySem.W.kitx_int I.t5 True.intro e (fun z=>nomatch z) h
 | str y=>obtain⟨t,q⟩:=(show ∃t,u=Value.str y t from rx);cases q;exact PySem.W.kia_one PySem.W.kitx_str I.t5 True.intro e (fun z=>nomatch z) h
 | flt y=>obtain⟨t,q⟩:=(show ∃t,u=Value.float y t from rx);cases q;exact PySem.W.kia_one PySem.W.kitx_float I.t5 True.intro e (fun z=>nomatch z) h
 | @lst a xs ea =>
  cases (show u=Value.ref a from rx);obtain⟨_,_,n,_,h1⟩:=(show nE X.prog X.w H s.heap a (.lst xs) from I.hok a _ ea);exact fi jA I.t5 ⟨_,h1,Z⟩ e (fun z=>nomatch z) h
 | @frz a ob xs ea =>
  cases (show u=Value.ref a from rx);obtain⟨_,_,_,n,_,h1⟩:=(show nE X.prog X.w H s.heap a (.frz ob (.lst xs)) from I.hok a _ ea);exact fi jA I.t5 ⟨_,h1,Z⟩ e (fun z=>nomatch z) h
 | @tup a xs ea =>
  cases (show u=Value.ref a from rx);obtain⟨_,_,_,p⟩:=(show nE X.prog X.w H s.heap a (.tup xs) from I.hok a _ ea);obtain⟨o,h1,h2,_⟩:=p;exact fi PySem.W.kitx_tuple I.t5 ⟨o,h1,h2⟩ e (fun z=>nomatch z) h
 | @dK a kvs ea =>
  cases (show u=Value.ref a from rx);obtain⟨_,_,vs,_,p⟩:=(show nE X.prog X.w H s.heap a (.dK kvs) from I.hok a _ ea);obtain⟨o,es,ep,h1,h2,_⟩:=p;exact fi jB I.t5 ⟨o,h1,h2.1⟩ e (fun z=>nomatch z) h
 | @dT a kvs ea =>
  cases (show u=Value.ref a from rx);obtain⟨_,_,xs,_,o,es,ep,h1,h2,_⟩:=(show nE X.prog X.w H s.heap a (.dT kvs) from I.hok a _ ea);exact fi jB I.t5 ⟨o,h1,h2.1⟩ e (fun z=>nomatch z) h
 | @ins a C dx fs ea cl ha hn htk hm =>
  cases (show u=Value.ref a from rx);obtain⟨mA,ziT,_⟩:=wo I.hok ea;obtain⟨od,ziS,_⟩:=ziT.look;exact fi (PySem.W.kitx_own (cl.get _) cl.hd ha hn htk hm) I.t5 ziS e (fun z=>nomatch z) h
end
variable {kw:List (Str×Value)}
structure nZ (k:Nat)(A:Around):Prop where
 hd:A.handled=none
 dp:A.depth+3*k+5<recursionLimit
 un:A.units+16*k+200<cLine
theorem nZ.mono {j k:Nat}{A:Around}(r:nZ k A)(h:j<=k):nZ j A:=⟨r.hd,by have:=r.dp;omega,by have:=r.un;omega⟩
theorem nZ.deeper {k:Nat}{A:Around}(r:nZ (k+1) A)(env:Env):nZ k (A.deeper env) :=
 ⟨r.hd,by have:=r.dp;show A.depth+1+3*k+5<_;omega,by have:=r.un;show A.units+3+16*k+200<_;omega⟩
theorem Da {A:Around}{C:Addr}{us:List Value}:(A.under (.builtin "type.__call__" ⟨.ref C::us,kw⟩)).depth=A.depth+1:=by
 first | rfl | simp[Around.under,Code.weight,Code.isCreation,Code.isGuard,Code.isCaller,Code.frames,Code.isFrame,guardIds]
theorem CL {A:Around}{C:Addr}{us:List Value}:(A.under (.builtin "type.__call__" ⟨.ref C::us,kw⟩)).units=A.units+1:=by
 first | rfl | simp[Around.under,Code.cUnits,Code.frames,Code.isFrame]
theorem nZ.make {k:Nat}{A:Around}(r:nZ (k+1) A)(C:Addr)(us:List Value)(kw:List (Str×Value)):nZ k (A.under (.builtin "type.__call__" ⟨.ref C::us,kw⟩)) :=
 ⟨r.hd,by have:=r.dp;rw[Da];omega,by have:=r.un;rw[CL];omega⟩
theorem nZ.depth {k:Nat}{A:Around}(r:nZ k A):A.depth<recursionLimit:=by have:=r.dp;omega
def Kd:TA:=fun _ H Q=>Q [] H
def BK (ta:TE)(tr:TA):TA:=fun σ H Q=>ta σ H fun x H1=>tr σ H1 fun xs H2=>Q (x::xs) H2
section
variable {X:Cx}{e:Expr}{es:List Expr}{te:TE}{t:TA}{pos:Pos}
theorem kS:PA X [] Kd:=fun _ _ _ _ H Q I h=>Calls.spliced_nil ⟨[],H,I,.nil,h⟩
theorem ki (ha:PE X e te)(hr:PA X es t)(hs:starEach (e::es) X.env=(false,eval e X.env)::starEach es X.env:=by rfl):PA X (e::es) (BK te t):=by
 intro pos ä s σ H Q I h;rw[hs];show wpAny _ _ (spliced ((false,eval e X.env)::backTo pos (starEach es X.env))) _ _ s
 refine Calls.spliced_cons (nK (ha ä s σ H _ I h) fun u s1 ⟨x,H1,I1,r1,q1⟩=>?_);exact nK (hr pos ä s1 σ H1 _ I1 q1) fun us s2 ⟨xs,H2,I2,r2,q2⟩=>⟨x::xs,H2,I2,.cons r1 r2,q2⟩
def VB (t:TA):TE:=fun σ H Q=>t σ H fun xs H1=>xs.length<=sizeLine/\∀p,H1 p=none->Q (.ref p) (upd H1 p (.tup xs))
def UZ (t:TA):TE:=fun σ H Q=>t σ H fun xs H1=>xs.length<=sizeLine/\∀p,H1 p=none->Q (.ref p) (upd H1 p (.lst xs))
theorem mE {x1}(h:PA X es t):PE X (.Tuple es x1 pos) (VB t):=by
 intro ä s σ H Q I hq;refine wpAny_Tuple_spliced (nK (h pos ä s σ H _ I hq) fun us s1 ⟨xs,H1,I1,r,z,q⟩=>⟨by rw[<-r.length];exact z,?_⟩);have hf:H1 s1.heap.objs.size=none:=I1.hok.fresh (aH _);refine⟨.ref s1.heap.objs.size,upd H1 s1.heap.objs.size (.tup xs),I1.laid (t':=s1.toks) (fun b u e=>aM _ e) (aH _) ?_,Z,q _ hf⟩;exact⟨z,us,r,⟨_,bV _ Z,Z,_,Z⟩⟩
theorem mF (h:PA X es t):PE X (.List es pos) (UZ t):=by
 intro ä s σ H Q I hq;refine wpAny_List_spliced (nK (h pos ä s σ H _ I hq) fun us s1 ⟨xs,H1,I1,r,z,q⟩=>⟨by rw[<-r.length];exact z,?_⟩);have hf:H1 s1.heap.objs.size=none:=I1.hok.fresh (aH _);refine⟨.ref s1.heap.objs.size,upd H1 s1.heap.objs.size (.lst xs),I1.laid (t':=s1.toks) (fun b u e=>aM _ e) (aH _) ?_,Z,q _ hf⟩;exact⟨z,us,0,r,bV _ Z⟩
end
abbrev Sp:=List V->Hp->VK->XK->Prop
abbrev Gi:=List Env->Hp->Shared->XK->Value->Shared->Prop
structure C4 (P:Program)(w:World)(K:zdg)(mg:Str->Option Value)(base:Heap)(A:Around)(outer:List Env)(s:Shared)(H:Hp):Prop where
 frames:A.frames=some outer
 mod:Mod K mg base
 bs:∀b o,base.get? b=some o->s.heap.get? b=some o/\H b=none
 bsz:base.objs.size<=s.heap.objs.size
 t8:s.heap.FunFrames base outer
 frf:∀b∈ye outer,H b=none
 hok:vh P w H s.heap
 bare:AllBare s.gens
def CE (outer:List Env)(P:Program)(w:World)(H:Hp)(s:Shared)(Q:VK)(u:Value)(s':Shared):Prop :=
 ∃v H',s'.os=s.os/\AllBare s'.gens/\Un (ye outer) [] H H' s.heap s'.heap/\vh P w H' s'.heap/\RelV v u/\Q v H'
def CR (CX:Gi)(outer:List Env)(P:Program)(w:World)(H:Hp)(s:Shared)(Q:VK)(E:XK)(r:Result)(s':Shared):Prop :=
 match r with
 | .ok (.ret u)=>CE outer P w H s Q u s'
 | .ok _=>eC
 | .error e=>CX outer H s E e s'
structure pK (P:Program)(w:World)(K:zdg)(mg:Str->Option Value)(base:Heap)(CX:Gi)(k:Nat)(f:Addr)(fd:FuncData)(ps:List Str)(sp:Sp):Prop where
 len:∀vs H Q E,sp vs H Q E->vs.length=ps.length
 run:∀(A:Around)(outer:List Env)(s:Shared)(H:Hp)(args:Args)(us:List Value)(vs:List V)(Q:VK)(E:XK),nZ k A->C4 P w K mg base A outer s H->BindsTo s fd args (ps.zip us)->Vals vs us->sp vs H Q E ->
  codeAny (model P w) A (.call (.ref f) args) (CR CX outer P w H s Q E) s
theorem pK.mono {P:Program}{w:World}{K:zdg}{mg:Str->Option Value}{base:Heap}{CX:Gi}{j k:Nat}{f:Addr}{fd:FuncData}{ps:List Str}{sp:Sp}(F:pK P w K mg base CX j f fd ps sp)(h:j<=k) :
  pK P w K mg base CX k f fd ps sp:=⟨F.len,fun A outer s H args us vs Q E hr=>F.run A outer s H args us vs Q E (hr.mono h)⟩
theorem pK.imp {P:Program}{w:World}{K:zdg}{mg:Str->Option Value}{base:Heap}{CX:Gi}{k:Nat}{f:Addr}{fd:FuncData}{ps:List Str}{sp sp':Sp}(F:pK P w K mg base CX k f fd ps sp)
 (h:∀vs H Q E,sp' vs H Q E->sp vs H Q E):pK P w K mg base CX k f fd ps sp' :=
  ⟨fun vs H Q E q=>F.len vs H Q E (h _ _ _ _ q),fun A outer s H args us vs Q E hr he hb hv hs=>F.run A outer s H args us vs Q E hr he hb hv (h _ _ _ _ hs)⟩
theorem C4.make {P:Program}{w:World}{K:zdg}{mg:Str->Option Value}{base:Heap}{A:Around}{outer:List Env}{s:Shared}{H:Hp}(e:C4 P w K mg base A outer s H)(C:Addr)(us:List Value)(kw:List (Str×Value)) :
  C4 P w K mg base (A.under (.builtin "type.__call__" ⟨.ref C::us,kw⟩)) outer s H:=⟨by first | exact e.frames | (simpa [Around.under,Code.envs,Code.isFrame,pushEnvs] using e.frames),e.mod,e.bs,e.bsz,e.t8,e.frf,e.hok,e.bare⟩
section
variable {X:Cx}{ä:List (Addr×Obj)}{σ:St}{H:Hp}{s s':Shared}
theorem Inv.ND (I:Inv X ä σ H s):C4 X.prog X.w X.K X.mg X.base X.A X.stack s H :=
 ⟨I.ok.frames,I.ok.mod,I.bs,bQ I.ok.bsz I.sz,I.stack,I.Ac,I.hok,I.bare⟩
theorem Inv.after {Q:VK}{u:Value}(I:Inv X ä σ H s)(h:CE X.stack X.prog X.w H s Q u s'):EP X ä σ Q u s':=by
 obtain⟨v,H',os,bare,un,hok,r,q⟩:=h;obtain⟨hh,g,d,t,Pn⟩:=s';obtain rfl:Pn=s.os:=os;exact⟨v,H',I.call (h':=hh) (g':=g) (d':=d) (t':=t) (ch:=[]) un hok bare (fun b z=>absurd z ke),r,q⟩
end
def A5 (sp:Sp)(AG:List V)(E:XK)(t:TA):TE:=fun σ H Q=>t σ H fun vs H1=>sp (vs++AG) H1 Q E
def Ma (C:Addr)(m:Str)(sp:Sp)(AG:List V)(E:XK)(ta:TE)(t:TA):TE:=fun σ H Q=>ta σ H fun x H1=>∃a dx fs,x=.ref a/\H1 a=some (.ins C dx fs)/\fs.lookup m=none /\
 t σ H1 fun vs H2=>sp (x::(vs++AG)) H2 Q E
def L5 (C:Addr)(sp:Sp)(AG:List V)(E:XK)(t:TA):TE:=fun σ H Q=>t σ H fun vs H1=>∀x dx,H1 x=none->H1 dx=none->dx≠x ->
 sp (.ref x::(vs++AG)) (upd (upd H1 dx (.own x)) x (.ins C dx [])) (fun v H2=>v=.non/\Q (.ref x) H2) E
def Binds (K:zdg)(fd:FuncData)(ps:List Str)(ds:List Value):Prop :=
 ∀(s:Shared)(us:List Value),K.In s.heap->(us++ds).length=ps.length->BindsTo s fd ⟨us,[]⟩ (ps.zip (us++ds))
theorem Binds.all {K:zdg}{fd:FuncData}{ps:List Str}(h:∀us:List Value,us.length=ps.length->bindArgs fd ⟨us,[]⟩=pure (ps.zip us)):Binds K fd ps []:=fun s us _ hl=>by
 rw[fU] at hl ⊢;exact .of_eq (h us hl)
def Passes (CX:Gi)(X:Cx)(E:XK):Prop:=∀(ä:List (Addr×Obj))(σ:St)(H:Hp)(s:Shared)(e:Value)(s':Shared),Inv X ä σ H s->CX X.stack H s E e s'->X.xe e s'
section
variable {ä:List (Addr×Obj)}
variable {X:Cx}{CX:Gi}{k:Nat}{f C:Addr}{fd:FuncData}{ps:List Str}{sp:Sp}{AG:List V}{ds:List Value}{E:XK}{x m:Str}{p pos apos:Pos}{e o:Expr}{es:List Expr}{ta:TE}{t:TA}
theorem Hw {σ:St}{H:Hp}{s:Shared}{Q:VK}{us:List Value}{vs:List V}(F:pK X.prog X.w X.K X.mg X.base CX k f fd ps sp)(hr:nZ k X.A)(hb:Binds X.K fd ps ds)(hd:Vals AG ds)(hx:Passes CX X E)
 (I:Inv X ä σ H s)(r:Vals vs us)(h:sp (vs++AG) H Q E):wpAny (model X.prog X.w) X.A (call (.ref f) us) (EP X ä σ Q) X.xe s:=by
  have r2:Vals (vs++AG) (us++ds):=r.append hd;have hl:(us++ds).length=ps.length:=by rw[<-r2.length];exact F.len _ _ _ _ h
  refine iI (gP (F.run X.A X.stack s H ⟨us,[]⟩ (us++ds) (vs++AG) Q E hr I.ND (hb s us I.t5 hl) r2 h) fun r s' hq=>?_);cases r with
  | error e=>exact hx ä σ H s e s' I hq
  | ok fl =>
    cases fl with
    | ret u=>exact I.after hq
    | next=>exact False.elim hq
    | brk=>exact False.elim hq
    | cont=>exact False.elim hq
theorem D0 (F:pK X.prog X.w X.K X.mg X.base CX k f fd ps sp)(hr:nZ k X.A)(hg:Gl X x)(hm:X.mg x=some (.ref f))(hk:PySem.W.keepIn X.K (.ref f)=true)(hb:Binds X.K fd ps ds)(hd:Vals AG ds)(hx:Passes CX X E)
  (ha:PA X (e::es) t)(yE:(x == ("__debug__":Str))=false:=by decide)(he:starEach (e::es) X.env=(false,eval e X.env)::starEach es X.env:=by rfl)(sY:(backTo pos (starEach es X.env)).any (·.1)=false:=by rfl) :
  PE X (.Call (.Name x p) (e::es) [] pos) (A5 sp AG E t):=by
 intro ä s σ H Q I h;refine fv (uv I hg hm ?_ yE);refine gH (h₀:=X.base) I.ok.mod.kin hk (nK (ha pos ä s σ H _ I h) fun us s1 ⟨vs,H1,I1,r,q⟩=>⟨I1.t5,?_⟩) he sY;exact Hw F hr hb hd hx I1 r q
theorem Kr {pl:Sem Bool}(he:PE X o ta)(c:Gp X.K C)(hm:Meth X.K C m f)(F:pK X.prog X.w X.K X.mg X.base CX k f fd ps sp)(hr:nZ k X.A)(hb:Binds X.K fd ps ds)(hd:Vals AG ds)(hx:Passes CX X E)(ha:PA X (e::es) t)
 (ub:starEach (e::es) X.env=(false,eval e X.env)::starEach es X.env:=by rfl)(sY:(backTo pos (starEach es X.env)).any (·.1)=false:=by rfl)
 (ht:eval (.Call (.Attribute o m apos) (e::es) [] pos) X.env=(do
 let ov <-eval o X.env
 standAt apos.atName
 let (f,first) <-holding [ov] (getMethod ov m pl)
 callWith pos f first (backTo pos (starEach (e::es) X.env)) (backToKw pos (keywordEach [] X.env))):=by rfl) :
    PE X (.Call (.Attribute o m apos) (e::es) [] pos) (Ma C m sp AG E ta t):=by
  intro ä s σ H Q I h;refine PySem.W.methodCall_KW (pl:=pl) (nK (he ä s σ H _ I h) fun u s1 ⟨x,H1,I1,rx,a,dx,fs,ex,ea,l,q⟩=>?_) ht;subst ex;obtain rfl:u=Value.ref a:=rx;refine C2 I1 ea c hm l ?_;refine gH (first:=[.ref a]) (h₀:=X.base) I.ok.mod.kin hm.kp (nK (ha pos ä s1 σ H1 _ I1 q) fun us s2 ⟨vs,H2,I2,r,q2⟩=>⟨I2.t5,?_⟩) ub sY;exact Hw (us:=.ref a::us) (vs:=.ref a::vs) F hr hb hd hx I2 (.cons Z r) q2
structure Mk (K:zdg)(C f:Addr):Prop where
 makes:PySem.W.makesIn K C=true
 init:PySem.W.findIn K (.ref C) "__init__"=some (some (.ref f))
 fn:PySem.W.isFn K (.ref f)=true
 kp:PySem.W.keepIn K (.ref C)=true
theorem IH {σ:St}{H:Hp}{s:Shared}{Q:VK}{us:List Value}{vs:List V}(M:Mk X.K C f)(F:pK X.prog X.w X.K X.mg X.base CX k f fd ps sp)(hr:nZ (k+1) X.A)(hb:Binds X.K fd ps ds)(hd:Vals AG ds)
 (hx:Passes CX X E)(I:Inv X ä σ H s)(r:Vals vs us)
 (h:∀x dx,H x=none->H dx=none->dx≠x->sp (.ref x::(vs++AG)) (upd (upd H dx (.own x)) x (.ins C dx [])) (fun v H2=>v=.non/\Q (.ref x) H2) E) :
    wpAny (model X.prog X.w) X.A (call (.ref C) us) (EP X ä σ Q) X.xe s:=by
  have hq:=h (s.heap.objs.size+1) s.heap.objs.size (I.hok.fresh (gL _)) (I.hok.fresh (aH _)) (cy (bO _));have I2:=Inv.made (C:=C) I;have r2:Vals (V.ref (s.heap.objs.size+1)::(vs++AG)) (Value.ref (s.heap.objs.size+1)::(us++ds)):=.cons Z (r.append hd);have hl:(Value.ref (s.heap.objs.size+1)::us++ds).length=ps.length:=by
    have e:=r2.length;rw[F.len _ _ _ _ hq] at e;exact e.symm
  refine iI (HW (f:=f) I.t5 M.makes M.init (gY.mp M.fn) (gP (F.run _ X.stack _ _ ⟨Value.ref (s.heap.objs.size+1)::us,[]⟩ (Value.ref (s.heap.objs.size+1)::(us++ds)) _ _ E (hr.make C us [])
    (I2.ND.make C us []) (hb _ (Value.ref (s.heap.objs.size+1)::us) I2.t5 hl) r2 hq) fun r s' Cj=>?_))
  cases r with
  | error e=>exact hx ä σ _ _ e s' I2 Cj
  | ok fl =>
    cases fl with
    | ret u =>
      obtain⟨v,H',I3,rv,ev,q3⟩:=I2.after Cj;subst ev;exact⟨rv,⟨V.ref (s.heap.objs.size+1),H',I3,Z,q3⟩⟩
    | next=>exact False.elim Cj
    | brk=>exact False.elim Cj
    | cont=>exact False.elim Cj
theorem Ls (M:Mk X.K C f)(F:pK X.prog X.w X.K X.mg X.base CX k f fd ps sp)(hr:nZ (k+1) X.A)(hg:Gl X x)(hm:X.mg x=some (.ref C))(hb:Binds X.K fd ps ds)(hd:Vals AG ds)(hx:Passes CX X E)
  (ha:PA X (e::es) t)(yE:(x == ("__debug__":Str))=false:=by decide)(he:starEach (e::es) X.env=(false,eval e X.env)::starEach es X.env:=by rfl)(sY:(backTo pos (starEach es X.env)).any (·.1)=false:=by rfl) :
  PE X (.Call (.Name x p) (e::es) [] pos) (L5 C sp AG E t):=by
 intro ä s σ H Q I h;refine fv (uv I hg hm ?_ yE);refine gH (h₀:=X.base) I.ok.mod.kin M.kp (nK (ha pos ä s σ H _ I h) fun us s1 ⟨vs,H1,I1,r,q⟩=>⟨I1.t5,?_⟩) he sY;exact IH M F hr hb hd hx I1 r q
end
structure kL (N P:List Str)(sc:Scope):Prop where
 kind:sc.kind=.function
 co:sc.isCoroutine=false
 gen:sc.isGenerator=false
 nd:N.Nodup
 pre:N.take P.length=P
 par:∀x∈P,sc.names.lookup x=some .local\/sc.names.lookup x=some .cell
 nofree:∀y∈sc.names,y.2≠.free
theorem yR {kindOf:Str->Option NameKind}{x:Str}:∀{binds:List (Str×Value)}{m:Str->Option Value},(∀v,(x,v)∉binds)->bindL kindOf binds m x=m x
 | [],_,_=>rfl
 | (n,v)::r,m,h=>by
  unfold bindL;rw[yR fun w hw=>h w (ar _ hw)];split
  .have:x≠n:=by rintro rfl;exact h v av
   simp[this]
  .rfl
theorem yK {kindOf:Str->Option NameKind}{x:Str}:∀{binds:List (Str×Value)}{m:Str->Option Value},(∀v,(x,v)∉binds)->bindC kindOf binds m x=m x
 | [],_,_=>rfl
 | (n,v)::r,m,h=>by
  unfold bindC;rw[yK fun w hw=>h w (ar _ hw)];split
  .rfl
  .have:x≠n:=by rintro rfl;exact h v av
   simp[this]
theorem zC {kindOf:Str->Option NameKind}{x:Str}{v:Value}:∀{P:List Str}{vs:List Value}{i:Nat}{m:Str->Option Value},P.Nodup->P[i]?=some x->vs[i]?=some v->kindOf x=some .local ->
  bindL kindOf (P.zip vs) m x=some v
 | [],_,_,_,_,h,_,_=>by simp at h
 | _::_,[],_,_,_,_,h,_=>by simp at h
 | p::P,w::vs,0,m,nd,h1,h2,hk=>by
  simp at h1 h2;subst h1;subst h2;show bindL kindOf ((p,w)::P.zip vs) m p=_
  unfold bindL;rw[yR fun v hv=>(fj.mp nd).1 (jT hv).1,aB hk];simp
 | p::P,w::vs,i+1,m,nd,h1,h2,hk=>by
  show bindL kindOf ((p,w)::P.zip vs) m x=_
  unfold bindL;exact zC (i:=i) (fj.mp nd).2 (by simpa using h1) (by simpa using h2) hk
theorem zw {kindOf:Str->Option NameKind}{x:Str}{v:Value}:∀{P:List Str}{vs:List Value}{i:Nat}{m:Str->Option Value},P.Nodup->P[i]?=some x->vs[i]?=some v->kindOf x≠some .local ->
  bindC kindOf (P.zip vs) m x=some v
 | [],_,_,_,_,h,_,_=>by simp at h
 | _::_,[],_,_,_,_,h,_=>by simp at h
 | p::P,w::vs,0,m,nd,h1,h2,hk=>by
  simp at h1 h2;subst h1;subst h2;show bindC kindOf ((p,w)::P.zip vs) m p=_
  unfold bindC;rw[yK fun v hv=>(fj.mp nd).1 (jT hv).1,ak hk];simp
 | p::P,w::vs,i+1,m,nd,h1,h2,hk=>by
  show bindC kindOf ((p,w)::P.zip vs) m x=_
  unfold bindC;exact zw (i:=i) (fj.mp nd).2 (by simpa using h1) (by simpa using h2) hk
def start (N:List Str)(vs:List V):St:=vs.map some++List.replicate (N.length-vs.length) none
def qX (CX:Gi)(P:Program)(w:World)(K:zdg)(mg:Str->Option Value)(base:Heap)(N:List Str)(ç:Str)(scope:Scope)(f:Addr)(cd:Value)(A:Around)(outer:List Env)(s:Shared)(H:Hp)(E:XK):Cx where
 prog:=P
 w:=w
 K:=K
 mg:=mg
 base:=base
 A:=A.deeper (envOfC ç scope s.heap.objs.size f cd)
 N:=N
 s₀:=s
 H₀:=H
 env:=envOfC ç scope s.heap.objs.size f cd
 outer:=outer
 stack:=envOfC ç scope s.heap.objs.size f cd::outer
 ex:=[]
 calm:=true
 fn:=fun _=>true
 pn:=[]
 xe:=fun e s'=>wpAny (model P w) (A.deeper (envOfC ç scope s.heap.objs.size f cd)) (leaving (envOfC ç scope s.heap.objs.size f cd) e) (fun _ s''=>CX outer H s E e s'') (fun e' s''=>CX outer H s E e' s'') s'
theorem B7 {sc:Scope}{n:Nat}{x:Str}(h:sc.names.lookup x=some .cell):∃c,(cellsFrom n sc.names []).lookup x=some c:=by
 have q:=iY sc.names n [] (.inl h);exact iR.mp q
theorem Fx {CX:Gi}{P:Program}{w:World}{K:zdg}{mg:Str->Option Value}{base:Heap}{N ps:List Str}{ç:Str}{scope:Scope}{f:Addr}{cd:Value}{A:Around}{outer:List Env}{s s1:Shared}{H:Hp}{E:XK}{us:List Value}{vs:List V}
 (S:kL N ps scope)(hd:A.handled=none)(e0:C4 P w K mg base A outer s H)(hl:vs.length=ps.length)(r:Vals vs us)
 (x:InCallC s s.heap.objs.size (bindL (envOfC ç scope s.heap.objs.size f cd).kindOf (ps.zip us) fun _=>none) (cellsFrom (s.heap.objs.size+1) scope.names []) (bindC (envOfC ç scope s.heap.objs.size f cd).kindOf (ps.zip us) fun _=>none) s1) :
    Inv (qX CX P w K mg base N ç scope f cd A outer s H E) [] (start N vs) H s1:=by
  have sY:ps.length<=N.length:=by have:=cU List.length S.pre;rw[cO] at this;omega
  obtain⟨h1,tk,rfl,hk⟩:=x.done;have noA:∀b:Addr,b∉(qX CX P w K mg base N ç scope f cd A outer s H E).ex:=fun b z=>absurd (show b∈([]:List Addr) from z) ke;refine⟨⟨e0.mod,S.kind,Z,Z,aH _,fun y z c h1 h2=>?_,fun y hy=>?_,fun y c _ h=>?_,fun _=>hd,Around.frames_deeper e0.frames,.inr ⟨Z,Z⟩,fun b z=>absurd z (noA b),e0.bs,e0.bsz,fun b _ _=>noA b,fun b z=>absurd z (noA b),e0.t8,e0.frf⟩,
    Z,e0.bare,Un.kept hk,⟨_,x.toInCall.ns,fun i y v h1 h2 h3=>?_⟩,fun y c h=>⟨_,x.cell y c h⟩,e0.hok.fresh (aH _),fun y c h=>?_,fun p hp=>absurd (show p∈([]:List (Addr×Obj)) from hp) ke,e0.hok.kept hk,?_⟩
  · exact name_of_addr x.apart (fS h1) (fS h2)
  · have hy:scope.names.lookup y=some .cell\/scope.names.lookup y=some .free:=hy
    rcases hy with hy | hy
    · exact B7 hy
    · exact absurd Z (S.nofree _ (fS hy))
  · exact eJ (x.above y c (fS h))
  · have hi:i<vs.length:=by
      unfold start at h2
      by_cases hi:i<vs.length
      · exact hi
      · rw[dD (by simpa using hi)] at h2
        rw[fX] at h2;split at h2<;>cases h2
    have ha:vs[i]?=some v:=by
      unfold start at h2;rw[dI (by simpa using hi),List.getElem?_map] at h2;cases e:vs[i]? with
      | none=>rw[e] at h2;cases h2
      | some a=>rw[e] at h2;cases h2;rfl
    obtain⟨u,hu,rv⟩:=r.get ha;have hp:ps[i]?=some y:=by
      rw[<-S.pre,iS kg];exact h1
    have ndP:ps.Nodup:=by rw[<-S.pre];exact S.nd.sublist (List.take_sublist _ _)
    refine⟨u,rv,?_⟩;rcases S.par y (List.mem_of_getElem? hp) with k | k
    · exact .inl ⟨k,zC ndP hp hu k⟩
    · obtain⟨c,e⟩:=B7 (n:=s.heap.objs.size+1) k
      refine .inr ⟨.inl k,c,e,?_⟩;have q:=x.cell y c e;rw[zw ndP hp hu (by show scope.names.lookup y≠_;rw[k];decide)] at q;exact q
  · exact e0.hok.fresh (eJ (x.above y c (fS h)))
  · unfold start
    show _=N.length
    rw[aI,aa,aQ];omega
theorem LZ {CX:Gi}{P:Program}{w:World}{K:zdg}{mg:Str->Option Value}{base:Heap}{k:Nat}{f:Addr}{name ç:Str}{params:Arguments}{body:List Stmt}{scope:Scope}{dV kV doc pm cdv ct oc:Value}{an od:Option Addr}
 {osl:Array (Option Value)}{N ps:List Str}{sp:Sp}(lk:K.lookup f=some ⟨oc,od,.func (PySem.W.fnOf name ç params body scope dV kV doc pm an cdv ct),osl⟩)(vP:PySem.W.codeIn K cdv ç=true)(S:kL N ps scope)
 (len:∀vs H Q E,sp vs H Q E->vs.length=ps.length)
 (hbody:∀(A:Around)(outer:List Env)(s:Shared)(H:Hp)(vs:List V)(Q:VK)(E:XK),nZ k (A.deeper (envOfC ç scope s.heap.objs.size f cdv))->sp vs H Q E ->
 ∃t,yu (qX CX P w K mg base N ç scope f cdv A outer s H E) body t/\t { nx:=fun _ H'=>Q .non H',rt:=Q } (start N vs) H) :
    pK P w K mg base CX (k+1) f (PySem.W.fnOf name ç params body scope dV kV doc pm an cdv ct) ps sp:=by
  refine⟨len,fun A outer s H args us vs Q E hr e0 hb r hsp=>?_⟩;have hl:=len _ _ _ _ hsp;have KX:K.In s.heap:=e0.mod.kin.keeps fun b o e=>(e0.bs b o e).1;have lim:s.heap.NoLimit:=e0.mod.nolimit.keeps fun b o e=>(e0.bs b o e).1;have q9:∀y∈ps.zip us,scope.names.lookup y.1=some .local\/(scope.names.lookup y.1=some .cell/\((cellsFrom (s.heap.objs.size+1) scope.names []).lookup y.1).isSome=true):=fun ⟨n,v⟩ hy=>by
    rcases S.par n (List.of_mem_zip hy).1 with q | q
    · exact .inl q
    · exact .inr ⟨q,iY _ _ _ (.inl q)⟩
  refine codeAny_call_function hr.depth (KX _ _ lk) Z S.co S.gen Z (PySem.W.codeRec_of KX vP) (hb _ _ _ _ ?_);refine wpAny_newFunctionEnv_cells S.kind q9 fun env he s1 x=>?_;subst he;refine⟨lim.keeps x.toInCall.keep,codeAny_func ?_⟩;obtain⟨t,ht,hq⟩:=hbody A outer s H vs Q E (hr.deeper _) hsp;have I:Inv (qX CX P w K mg base N ç scope f cdv A outer s H E) [] (start N vs) H s1:=Fx S hr.hd e0 hl r x;refine c9 (ht [] s1 (start N vs) H _ I hq) (fun fl s' hs=>?_) fun e s' hs=>hs;have fin:∀{mw:St}{H':Hp}{v:V}{u:Value},Inv (qX CX P w K mg base N ç scope f cdv A outer s H E) [] mw H' s'->RelV v u->Q v H'->CE outer P w H s Q u s' :=
    fun {mw H' v u} ziS rv q=>⟨v,H',ziS.os,ziS.bare,ziS.base,ziS.hok,rv,q⟩
  cases fl with
  | ret u =>
    obtain⟨v,mw,H',ziS,rv,q⟩:=hs;exact fin ziS rv q
  | next =>
    obtain⟨mw,H',ziS,q⟩:=hs;exact fin (v:=V.non) (u:=Value.none) ziS Z q
  | brk =>
    obtain⟨_,_,_,q⟩:=hs;exact False.elim q
  | cont =>
    obtain⟨_,_,_,q⟩:=hs;exact False.elim q
section
variable {X:Cx}{x:Str}{p pos:Pos}{e:Expr}{es:List Expr}{t:TA}{id T:String}{r:List V->Hp->VK->Prop}
def VF (r:List V->Hp->VK->Prop)(t:TA):TE:=fun σ H Q=>t σ H fun vs H1=>r vs H1 Q
theorem lH (hc:qh X (.builtin id) r)(hg:Gl X x)(hm:X.mg x=none)(hv:bootBuiltins x=some (.builtin id))(ha:PA X (e::es) t)(hn:x≠"__name__":=by decide)(yE:(x == ("__debug__":Str))=false:=by decide)
  (he:starEach (e::es) X.env=(false,eval e X.env)::starEach es X.env:=by rfl)(sY:(backTo pos (starEach es X.env)).any (·.1)=false:=by rfl):PE X (.Call (.Name x p) (e::es) [] pos) (VF r t):=by
 intro ä s σ H Q I h;refine fv (qG I hg hm hv ?_ hn yE);exact PyProof.Rows.callWith_builtin1 (nK (ha pos ä s σ H _ I h) fun us s1 ⟨vs,H1,I1,r1,q1⟩=>hc ä s1 σ H1 vs us Q I1 r1 q1) he sY
theorem oE (hc:qh X (.type T) r)(hg:Gl X x)(hm:X.mg x=none)(hv:bootBuiltins x=some (.type T))(ha:PA X (e::es) t)(hn:x≠"__name__":=by decide)(yE:(x == ("__debug__":Str))=false:=by decide)
  (he:starEach (e::es) X.env=(false,eval e X.env)::starEach es X.env:=by rfl)(sY:(backTo pos (starEach es X.env)).any (·.1)=false:=by rfl):PE X (.Call (.Name x p) (e::es) [] pos) (VF r t):=by
 intro ä s σ H Q I h;refine fv (qG I hg hm hv ?_ hn yE);exact cF (nK (ha pos ä s σ H _ I h) fun us s1 ⟨vs,H1,I1,r1,q1⟩=>hc ä s1 σ H1 vs us Q I1 r1 q1) he sY
end
end L2
open L2.V renaming int→zaa, ref→zac, str→zap, bl→zbv
namespace HT
open PySem PyProof.Rows
section
def B6 (n d:Nat):Option Int->Nat
 | none=>d
 | some v=>if v<0 then (v+(n:Int)).toNat else min v.toNat n
theorem Hn (n d:Nat):B6 n d none=d:=rfl
theorem zP (n d k:Nat):B6 n d (some (k:Int))=min k n:=by
 show (if (k:Int)<0 then ((k:Int)+(n:Int)).toNat else min (k:Int).toNat n)=min k n
 rw[ak kg,ae]
end
end HT
open HT renaming B6→zbg
namespace L2
open PySem PySem.Spec PyProof.Rows
abbrev TO:=St->Hp->(Option Int->Hp->Prop)->Prop
def PO (X:Cx)(e:Option Expr)(t:TO):Prop :=
 ∀(ä:List (Addr×Obj))(s:Shared)(σ:St)(H:Hp)(Q:Option Int->Hp->Prop),Inv X ä σ H s->t σ H Q ->
  wpAny (model X.prog X.w) X.A (evalPart e X.env) (fun u s'=>∃o H',Inv X ä σ H' s'/\IsPart u o/\Q o H') X.xe s
def KB:TO:=fun _ H Q=>Q none H
def RL (t:TE):TO:=fun σ H Q=>t σ H fun x H1=>∃i,x=.int i/\Q (some i) H1
section
variable {X:Cx}{e:Expr}{te:TE}{lo hi:Option Expr}{tl th:TO}{pos p2:Pos}
theorem Ew:PO X none KB:=by
 intro ä s σ H Q I h;rw[evalPart_none];exact bX ⟨none,H,I,.none,h⟩
theorem sQ (h:PE X e te):PO X (some e) (RL te):=by
 intro ä s σ H Q I hw;rw[evalPart_some];refine nK (h ä s σ H _ I hw) fun u s1 ⟨x,H1,I1,r1,q1⟩=>?_;obtain⟨i,rfl,q⟩:=q1;obtain⟨t,rfl⟩:=r1;exact⟨some i,H1,I1,.int i t,q⟩
def Vu (X:Cx)(r:V->Option Int->Option Int->Hp->VK->Prop):Prop :=
 ∀(ä:List (Addr×Obj))(s:Shared)(σ:St)(H:Hp)(x:V)(v vl vu:Value)(lo hi:Option Int)(sl:Addr)(Q:VK),Inv X ä σ H s->RelV x v->s.heap.IsSliceOf sl vl vu .none->IsPart vl lo->IsPart vu hi->r x lo hi H Q ->
  ∃T id,typeLookup (.type T) "__getitem__"=pure (some (.builtin id))/\s.TypeIs v T/\wpAny (model X.prog X.w) X.A (getItem v (.ref sl)) (EP X ä σ Q) X.xe s
def tSl (r:V->Option Int->Option Int->Hp->VK->Prop)(te:TE)(tl th:TO):TE:=fun σ H Q=>te σ H fun x H1=>tl σ H1 fun l H2=>th σ H2 fun u H3=>r x l u H3 Q
theorem uL {r:V->Option Int->Option Int->Hp->VK->Prop}(hr:Vu X r)(he:PE X e te)(hl:PO X lo tl)(hu:PO X hi th):PE X (.Subscript e (.Slice lo hi none p2) pos) (tSl r te tl th):=by
 intro ä s σ H Q I h;refine Subscript_ (nK (he ä s σ H _ I h) fun v s1 ⟨x,H1,I1,r1,q1⟩=>?_);refine wpAny_Slice (nK (hl ä s1 σ H1 _ I1 q1) fun vl s2 ⟨l,H2,I2,pl,q2⟩=>nK (hu ä s2 σ H2 _ I2 q2) fun vu s3 ⟨u,H3,I3,pu,q3⟩=>?_);rw[evalPart_none];refine bX ?_;have I4:Inv X ä σ H3 { s3 with heap:=s3.heap.push { cls:=.type "slice",data:=.fields #[vl,vu,.none] } }:=I3.kept (t':=s3.toks) fun b ob q=>aM _ q;obtain⟨T,id,hT,ht,hg⟩:=hr ä { s3 with heap:=s3.heap.push { cls:=.type "slice",data:=.fields #[vl,vu,.none] } } σ H3 x v vl vu l u s3.heap.objs.size Q I4 r1 (Heap.IsSliceOf.new ..) pl pu q3;show wpAny (model X.prog X.w) X.A (subscriptTail e (.Slice lo hi none p2) v (.ref s3.heap.objs.size)) (EP X ä σ Q) X.xe { s3 with heap:=s3.heap.push { cls:=.type "slice",data:=.fields #[vl,vu,.none] } }
 exact tail_any (ops:=[.ref s3.heap.objs.size,v]) ht hT hg (by with_unfolding_all rfl)
def ud (xs:List V)(lo hi:Option Int):List V:=(xs.drop (zbg xs.length 0 lo)).take (zbg xs.length xs.length hi-zbg xs.length 0 lo)
theorem Bf (xs:List V)(lo hi:Option Int):(ud xs lo hi).length<=xs.length:=by
 unfold ud;rw[cO,cI];omega
end
def JN (n:Nat)(i:Int):Option Nat:=if 0<=i then (if i<n then some i.toNat else none) else if -(n:Int)<=i then some (i+n).toNat else none
def m9 {α:Type}(xs:List α)(i:Int):Option α:=(JN xs.length i).bind fun j=>xs[j]?
theorem Eu {n:Nat}{i:Int}{j:Nat}(h:JN n i=some j):seqIndex? i n=some j/\j<n/\-(n:Int)<=i/\i<n:=by
 unfold JN at h
 by_cases h0:0<=i
 .rw[aB h0] at h
  by_cases h1:i<n
  .rw[aB h1] at h;have e:i.toNat=j:=bL h;exact⟨by rw[j5 h0 h1,e],kg,kg,h1⟩
  .rw[ak h1] at h;cases h
 .rw[ak h0] at h
  by_cases h1:-(n:Int)<=i
  .rw[aB h1] at h;have e:(i+n).toNat=j:=bL h;exact⟨by rw[jH kg h1,e],kg,h1,kg⟩
  .rw[ak h1] at h;cases h
theorem ES {α:Type}{xs:List α}{i:Int}{v:α}(h:m9 xs i=some v):∃j,seqIndex? i xs.length=some j/\xs[j]?=some v/\j<xs.length/\-(xs.length:Int)<=i/\i<xs.length:=by
 unfold m9 at h;cases e:JN xs.length i with
 | none=>rw[e] at h;cases h
 | some j =>
  rw[e] at h;obtain⟨h1,h2,h3,h4⟩:=Eu e;exact⟨j,h1,h,h2,h3,h4⟩
theorem m8 {α:Type}{xs:List α}{j:Nat}{v:α}(h:xs[j]?=some v):m9 xs (j:Int)=some v:=by
 have hj:j<xs.length:=(aF.mp h).1;have e:JN xs.length (j:Int)=some j:=by
  unfold JN;rw[aB kg,aB kg];simp
 unfold m9;rw[e];exact h
def ET (b:Expr):Prop:=∀o i,subscripted b false o i=operate [o,i] (getItem o i)
def Pd (X:Cx)(r:R2):Prop :=
 ∀(value slice:Expr)(ä:List (Addr×Obj))(s:Shared)(σ:St)(H:Hp)(x y:V)(v u:Value)(Q:VK),Inv X ä σ H s->RelV x v->RelV y u->r x y H Q ->
  subscripted slice false v u=operate [v,u] (getItem v u)->wpAny (model X.prog X.w) X.A (subscriptTail value slice v u) (EP X ä σ Q) X.xe s
def Z2 (X:Cx)(id:String)(r:V->List V->Hp->VK->Prop):Prop :=
 ∀(ä:List (Addr×Obj))(s:Shared)(σ:St)(H:Hp)(x:V)(xs:List V)(v:Value)(us:List Value)(Q:VK),Inv X ä σ H s->RelV x v->Vals xs us->r x xs H Q ->
  wpAny (model X.prog X.w) X.A (call (.builtin id) (v::us)) (EP X ä σ Q) X.xe s
section
variable {ä:List (Addr×Obj)}{s:Shared}
variable {X:Cx}{a b:Expr}{ta tb:TE}{pos:Pos}
theorem P6 {r:R2}(hr:Pd X r)(ha:PE X a ta)(hb:PE X b tb)(hs:ET b):PE X (.Subscript a b pos) (Pe r ta tb):=by
 intro ä s σ H Q I h;exact Subscript_ (Nu ha hb I h fun v u s2 x y H2 I2 rx ry q=>hr a b ä s2 σ H2 x y v u Q I2 rx ry q (hs _ _))
def Q9 (K:zdg):R2:=fun x y H Q=>∃p xs i v,x=.ref p/\y=.int i/\kR K H p xs/\m9 xs i=some v/\Q v H
def QK (K:zdg):R2:=fun x y H Q=>∃p xs i v,x=.ref p/\y=.int i/\lX K H p xs/\m9 xs i=some v/\Q v H
theorem lP:Pd X (Q9 X.K):=by
 intro value slice ä s σ H x y v u Q I rx ry h hs;obtain⟨p,xs,i,z,rfl,rfl,hq,he,q⟩:=h;cases rx;obtain⟨t,rfl⟩:=ry;obtain⟨â,r,pl,hz⟩:=I.list hq;obtain⟨j,h1,h2,h3,h4,h5⟩:=ES he;obtain⟨w,ew,AN⟩:=r.get h2;have hl:=r.length;have hn:=AA;have fin:EP X ä σ Q w s:=⟨z,H,I,AN,q⟩
 by_cases h0:0<=i
 .have hj:i.toNat=j:=by
   rw[j5 h0 h5] at h1;exact bL h1
  exact item_listR pl.isList h0 kg (by rw[hj];simpa using ew) fin hs
 .have hj:(i+(â.toArray.size:Int)).toNat=j:=by
   rw[jH kg h4] at h1;rw[cB,<-hl];exact bL h1
  exact subscriptTail_builtinR (x:=w) pl.isList.typeIs slot_list_getitem.lookup
   (wpAny_getItem_list_neg (Q:=fun r s'=>r=w/\EP X ä σ Q r s') pl.isList kg (by rw[cB]<;>omega) kg (by rw[hj];simpa using ew) ⟨Z,fin⟩) hs
theorem kT:Pd X (QK X.K):=by
 intro value slice ä s σ H x y v u Q I rx ry h hs;obtain⟨p,xs,i,z,rfl,rfl,hq,he,q⟩:=h;cases rx;obtain⟨t,rfl⟩:=ry;obtain⟨â,r,pl,hz⟩:=I.tuple hq;obtain⟨j,h1,h2,h3,h4,h5⟩:=ES he;obtain⟨w,ew,AN⟩:=r.get h2;have hl:=r.length;have hn:=AA;have fin:EP X ä σ Q w s:=⟨z,H,I,AN,q⟩;exact subscriptTail_builtinR (x:=w) pl.typeIs slot_tuple_getitem.lookup
  (getItem_tuple (j:=j) (Q:=fun r s'=>r=w/\EP X ä σ Q r s') pl kg kg (by rw[cB,<-hl];exact h1) (by simpa using ew) ⟨Z,fin⟩) hs
theorem Cr (â:List Value)(n j:Nat)(u:Value):Obj.mapSeq (·.setIfInBounds j u) { cls:=.type "list",data:=.seq â.toArray n }={ cls:=.type "list",data:=.seq (â.set j u).toArray n }:=by
 simp[Obj.mapSeq]
theorem Inv.lst {ä:List (Addr×Obj)}{σ:St}{H:Hp}{s:Shared}{p:Addr}{xs:List V}(I:Inv X ä σ H s)(h:H p=some (.lst xs)) :
  ∃(â:List Value)(n:Nat),Vals xs â/\s.heap.get? p=some { cls:=.type "list",data:=.seq â.toArray n }/\xs.length<=sizeLine:=by
 obtain⟨z,â,n,r,e⟩:=I.hok p _ h;exact⟨â,n,r,e,z⟩
theorem Inv.N8 {σ:St}{H:Hp}{p:Addr}{xs ys:List V}{â its':List Value}{n n':Nat}{f:Obj->Obj}(I:Inv X ä σ H s)(h:H p=some (.lst xs))
 (ho:s.heap.get? p=some { cls:=.type "list",data:=.seq â.toArray n })(hf:f { cls:=.type "list",data:=.seq â.toArray n }={ cls:=.type "list",data:=.seq its'.toArray n' })(r:Vals ys its')(hz:ys.length<=sizeLine)(t:Nat) :
    Inv X ä σ (upd H p (.lst ys)) { s with heap:=s.heap.update p f,toks:=t }:=by
  have e:(s.heap.update p f).get? p=some { cls:=.type "list",data:=.seq its'.toArray n' }:=by
    rw[fK f ho (by rw[hf]<;>rfl),hf]
  refine I.write (x:=p) (e:=p) (by rw[h];trivial) (.inl Z) (fun b u hb q=>(cP _ _ (cM hb)).trans q) ⟨_,e⟩ ?_;exact⟨hz,its',n',r,e⟩
def QA:V->V->V->Hp->(Hp->Prop)->Prop:=fun o i v H Q=>∃p xs k j,o=.ref p/\i=.int k/\H p=some (.lst xs)/\JN xs.length k=some j/\Q (upd H p (.lst (xs.set j v)))
theorem set_list:Rz X QA:=by
 intro ä s σ H o i v ov iv u Q I ro ri rv h;obtain⟨p,xs,k,j,rfl,rfl,hp,hj,q⟩:=h;cases ro;obtain⟨t,rfl⟩:=ri;obtain⟨â,n,r,ho,hz⟩:=I.lst hp;obtain⟨h1,h2,h3,h4⟩:=Eu hj;have hl:=r.length;have hn:=AA;have I':Inv X ä σ (upd H p (.lst (xs.set j v))) { s with heap:=s.heap.update p (Obj.mapSeq (·.setIfInBounds j u)) } :=
  I.N8 hp ho (Cr â n j u) (r.set rv j) (by rw[cq];exact hz) s.toks
 by_cases h0:0<=k
 .have hk:k.toNat=j:=by
   rw[j5 h0 h4] at h1;exact bL h1
  exact PySem.W.ki_setAt ho h0 kg (by rw[cB,<-hl];exact h4) (by rw[hk];exact⟨_,I',q⟩)
 .have hk:(k+(â.toArray.size:Int)).toNat=j:=by
   rw[jH kg h3] at h1;rw[cB,<-hl];exact bL h1
  exact PySem.W.ki_setBack ho kg (by rw[cB,<-hl];exact h3) kg (by rw[hk];exact⟨_,I',q⟩)
theorem Aa (lo hi:Option Int)(n:Nat):(sliceBounds lo hi none n).1=((zbg n 0 lo:Nat):Int)/\(sliceBounds lo hi none n).2.1=((zbg n n hi:Nat):Int)/\(sliceBounds lo hi none n).2.2=1:=by
 refine⟨?_,?_,Z⟩
 .cases lo with
  | none=>simp[sliceBounds,zbg]
  | some i =>
   simp only[sliceBounds,zbg,Option.getD_none,show (1:Int) > 0 by decide,if_true]
   by_cases h:i<0
   .simp only[h,if_true]<;>omega
   .simp only[h,if_false]<;>omega
 .cases hi with
  | none=>simp[sliceBounds,zbg]
  | some i =>
   simp only[sliceBounds,zbg,Option.getD_none,show (1:Int) > 0 by decide,if_true]
   by_cases h:i<0
   .simp only[h,if_true]<;>omega
   .simp only[h,if_false]<;>omega
theorem yq (â:List Value)(lo hi:Option Int):slicePick â.toArray lo hi none=((â.drop (zbg â.length 0 lo)).take (zbg â.length â.length hi-zbg â.length 0 lo)).toArray:=by
 obtain⟨h1,h2,h3⟩:=Aa lo hi â.toArray.size;unfold slicePick;rw[h1,h2,h3];simp only[sliceRange_one,pick_run,List.size_toArray]<;>rfl
def QQ (K:zdg):V->Option Int->Option Int->Hp->VK->Prop:=fun x lo hi H Q=>∃a xs,x=.ref a/\kR K H a xs/\∀p,H p=none->Q (.ref p) (upd H p (.lst (ud xs lo hi)))
theorem wy:Vu X (QQ X.K):=by
 intro ä s σ H x v vl vu lo hi sl Q I rx hs pl pu h;obtain⟨a,xs,rfl,hx,q⟩:=h;cases rx;obtain⟨â,r,ht,hz⟩:=I.list hx;have ì:=r.length;refine⟨"list",_,slot_list_getitem.lookup,ht.isList.typeIs,?_⟩;refine wpAny_getItem_list_slice ht.isList hs pl pu .none ke ?_ (by rw[List.size_toArray]<;>omega);rw[yq,<-ì];refine⟨.ref s.heap.objs.size,_,I.laid (t':=s.toks) (o:=.lst (ud xs lo hi)) (fun b ob q=>aM _ q) (aH _) ?_,Z,q _ (I.hok.fresh (aH _))⟩;exact⟨bQ (Bf xs lo hi) hz,_,0,(r.drop (zbg xs.length 0 lo)).take (zbg xs.length xs.length hi-zbg xs.length 0 lo),bV _ Z⟩
def uz:V->Bool
 | .non=>true
 | .bl _=>true
 | .int _=>true
 | .str _=>true
 | _=>false
def L7:V->V->Bool
 | .non,.non=>true
 | .bl a,.bl b=>a == b
 | .bl a,.int b=>(if a then 1 else 0) == b
 | .int a,.bl b=>a == (if b then 1 else 0)
 | .int a,.int b=>a == b
 | .str a,.str b=>a == b
 | _,_=>false
theorem Og {A:Around}{y x:V}{u v:Value}(ry:RelV y u)(rx:RelV x v)(fy:uz y=true)(fx:uz x=true):SeqAt.EqAt A s u v (L7 y x):=by
 cases y with
 | non =>
  cases ry;cases x with
  | non=>cases rx;exact SeqAt.EqAt.same _
  | bl b=>cases rx;exact SeqAt.EqAt.none_bool b
  | int b=>obtain⟨t,rfl⟩:=rx;exact SeqAt.EqAt.none_int b t
  | str b=>obtain⟨t,rfl⟩:=rx;exact SeqAt.EqAt.none_str b t
  | _=>exact absurd (show false=true from fx) aU
 | bl a =>
  cases ry;cases x with
  | non=>cases rx;exact SeqAt.EqAt.bool_none a
  | bl b=>cases rx;exact SeqAt.EqAt.bool_bool a b
  | int b=>obtain⟨t,rfl⟩:=rx;exact SeqAt.EqAt.bool_int a b t
  | str b=>obtain⟨t,rfl⟩:=rx;exact SeqAt.EqAt.bool_str a b t
  | _=>exact absurd (show false=true from fx) aU
 | int a =>
  obtain⟨t',rfl⟩:=ry;cases x with
  | non=>cases rx;exact SeqAt.EqAt.int_none a t'
  | bl b=>cases rx;exact SeqAt.EqAt.int_bool a t' b
  | int b=>obtain⟨t,rfl⟩:=rx;exact SeqAt.EqAt.int_int a t' b t
  | str b=>obtain⟨t,rfl⟩:=rx;exact SeqAt.EqAt.int_str a t' b t
  | _=>exact absurd (show false=true from fx) aU
 | str a =>
  obtain⟨t',rfl⟩:=ry;cases x with
  | non=>cases rx;exact SeqAt.EqAt.str_none a t'
  | bl b=>cases rx;exact SeqAt.EqAt.str_bool a t' b
  | int b=>obtain⟨t,rfl⟩:=rx;exact SeqAt.EqAt.str_int a t' b t
  | str b=>obtain⟨t,rfl⟩:=rx;exact SeqAt.EqAt.str_str a t' b t
  | _=>exact absurd (show false=true from fx) aU
 | _=>exact absurd (show false=true from fy) aU
def Lx (x:V)(u:Value):Bool:=match u with
 | .none=>L7 .non x
 | .bool b=>L7 (.bl b) x
 | .int i _=>L7 (.int i) x
 | .str z _=>L7 (.str z) x
 | _=>false
theorem HY {x y:V}{u:Value}(r:RelV y u)(f:uz y=true):Lx x u=L7 y x:=by
 cases y with
 | non=>cases r;rfl
 | bl b=>cases r;rfl
 | int i=>obtain⟨t,rfl⟩:=r;rfl
 | str z=>obtain⟨t,rfl⟩:=r;rfl
 | _=>exact absurd (show false=true from f) aU
theorem zR {x:V}:∀{xs:List V}{us:List Value},Vals xs us->xs.all uz=true->us.any (Lx x)=xs.any fun y=>L7 y x
 | _,_,.nil,_=>rfl
 | y::xs,u::us,.cons r t,f=>by
  rw[iT,fL] at f;rw[gQ,gQ,HY r f.1,zR t f.2]
theorem xy {A:Around}{s:Shared}{x:V}{v:Value}(rx:RelV x v)(fx:uz x=true):∀{xs:List V}{us:List Value},Vals xs us->xs.all uz=true->∀u∈us,SeqAt.EqAt A s u v (Lx x u)
 | _,_,.nil,_=>fun u hu=>by cases hu
 | y::xs,u::us,.cons r t,f=>fun u' hu=>by
  rw[iT,fL] at f;rcases List.mem_cons.mp hu with rfl | hu
  .rw[HY r f.1];exact Og r rx f.1 fx
  .exact xy rx fx t f.2 u' hu
def QX (x:V)(xs:List V):Bool:=xs.any fun y=>L7 y x
def rIn (K:zdg)(neg:Bool):R2:=fun x y H Q=>∃p xs,y=.ref p/\(kR K H p xs\/lX K H p xs)/\uz x=true/\xs.all uz=true/\Q (.bl (if neg then !QX x xs else QX x xs)) H
theorem zI:uT X (compareOp .NotIn) (rIn X.K true):=by
 intro ä s σ H x y v u Q I rx ry h;obtain⟨p,xs,rfl,hq,fx,fs,q⟩:=h;cases ry;rcases hq with hq | hq
 .obtain⟨â,r,pl,hz⟩:=I.list hq;refine SeqAt.notIn_listAt (Lx x) pl.isList (fun w hw=>xy rx fx r fs w (by simpa using hw)) ⟨.bl _,H,I,Z,?_⟩;rw[show â.toArray.any (Lx x)=â.any (Lx x) by simp,zR r fs];exact q
 .obtain⟨â,r,pl,hz⟩:=I.tuple hq;refine SeqAt.notIn_tupleAt (Lx x) pl (fun w hw=>xy rx fx r fs w (by simpa using hw)) ⟨.bl _,H,I,Z,?_⟩;rw[show â.toArray.any (Lx x)=â.any (Lx x) by simp,zR r fs];exact q
theorem ur:qh X (.builtin "len") (fun xs H Q=>∃p ys,xs=[.ref p]/\(kR X.K H p ys\/lX X.K H p ys)/\Q (.int ys.length) H):=by
 intro ä s σ H xs us Q I r h;obtain⟨p,ys,rfl,hq,q⟩:=h;obtain⟨u,rfl,rx⟩:=vals1 r;cases rx;have hn:=AA;rcases hq with hq | hq
 .obtain⟨â,r',pl,hz⟩:=I.list hq;have ì:=r'.length;exact Calls.call_len_list pl.isList (by simp only[List.size_toArray]<;>omega) ⟨.int ys.length,H,I.tok _,⟨s.toks+1,by rw[List.size_toArray,ì]⟩,q⟩
 .obtain⟨â,r',pl,hz⟩:=I.tuple hq;have ì:=r'.length;exact len_tuple pl (by simp only[List.size_toArray]<;>omega) ⟨.int ys.length,H,I.tok _,⟨s.toks+1,by rw[List.size_toArray,ì]⟩,q⟩
theorem nY:qh X (.type "list") (fun xs H Q=>∃p ys,xs=[.ref p]/\(kR X.K H p ys\/lX X.K H p ys)/\∀l,H l=none->Q (.ref l) (upd H l (.lst ys))):=by
 intro ä s σ H xs us Q I r h;obtain⟨p,ys,rfl,hq,q⟩:=h;obtain⟨u,rfl,rx⟩:=vals1 r;cases rx;have fin:∀(â:List Value),Vals ys â->ys.length<=sizeLine->∀(h':Heap)(c':Nat),(∀b o',s.heap.get? b=some o'->h'.get? b=some o') ->
   h'.get? s.heap.objs.size=some { cls:=.type "list",dict:=none,data:=.seq â.toArray c',slots:=#[] }->EP X ä σ Q (.ref s.heap.objs.size) { s with heap:=h' }:=fun â r' hz h' c' kp e =>
  ⟨.ref s.heap.objs.size,_,I.laid (t':=s.toks) kp (aH _) (show nE X.prog X.w _ h' _ (.lst ys) from ⟨hz,â,c',r',e⟩),Z,q _ (I.hok.fresh (aH _))⟩
 rcases hq with hq | hq
 .obtain⟨â,r',pl,hz⟩:=I.list hq;have ì:=r'.length;obtain⟨o,ho,hc,n,hd⟩:=pl.isList;exact call_list_seq p (.inl Z) ho hc hd (fun h' c' kp e=>fin â r' hz h' c' kp e) (by simp only[List.size_toArray]<;>omega)
 .obtain⟨â,r',pl,hz⟩:=I.tuple hq;have ì:=r'.length;obtain⟨o,ho,hc,n,hd⟩:=pl;exact call_list_seq p (.inr Z) ho hc hd (fun h' c' kp e=>fin â r' hz h' c' kp e) (by simp only[List.size_toArray]<;>omega)
def Wg (K:zdg)(T:String)(x:V)(H:Hp):Prop:=match x with
 | .str _=>T = "str"
 | .int _=>T = "int"
 | .ref p=>(T = "list"/\∃xs,kR K H p xs)\/(T = "tuple"/\∃o,K.lookup p=some o/\o.cls=.type "tuple"/\o.dict=none) \/
   (T = "dict"/\((∃kvs,H p=some (.dK kvs))\/∃kvs,H p=some (.dT kvs)))\/(T = "set"/\∃S n,H p=some (.set S n))
 | _=>eC
theorem HG {σ:St}{H:Hp}{T:String}{x:V}{v:Value}(I:Inv X ä σ H s)(r:RelV x v)(ty:Wg X.K T x H) :
  s.TypeIs v T/\∀a,v=.ref a->∃ob,s.heap.get? a=some ob/\ob.dict=none:=by
 cases x with
 | str z =>
  obtain⟨t,rfl⟩:=r;cases (show T = "str" from ty);exact⟨typeIs_str s z t,fun _ e=>nomatch e⟩
 | int i =>
  obtain⟨t,rfl⟩:=r;cases (show T = "int" from ty);exact⟨typeIs_int s i t,fun _ e=>nomatch e⟩
 | ref p =>
  cases r;rcases ty with ⟨rfl,xs,hq⟩ | ⟨rfl,o,hk,hc,hd⟩ | ⟨rfl,hk⟩ | ⟨rfl,S,n,hk⟩
  .obtain⟨â,_,pl,_⟩:=I.list hq;refine⟨pl.isList.typeIs,fun a e=>?_⟩;cases e;obtain⟨o,n,e,c,hd,_⟩:=pl;exact⟨o,e,hd⟩
  .refine⟨⟨o,I.t5 p o hk,hc⟩,fun a e=>?_⟩;cases e;exact⟨o,I.t5 _ o hk,hd⟩
  .have z:∃o,s.heap.get? p=some o/\o.ExactDict:=by
    rcases hk with ⟨kvs,hk⟩ | ⟨kvs,hk⟩
    .obtain⟨_,_,_,_,o,_,_,e,ex,_⟩:=I.hok p _ hk;exact⟨o,e,ex⟩
    .obtain⟨_,_,_,_,o,_,_,e,ex,_⟩:=I.hok p _ hk;exact⟨o,e,ex⟩
   obtain⟨o,e,ex⟩:=z;refine⟨⟨o,e,ex.1⟩,fun a e2=>?_⟩;cases e2;exact⟨o,e,ex.2.1⟩
  .obtain⟨o,_,_,_,e,ex,_⟩:=I.hok p _ hk;refine⟨⟨o,e,ex.1⟩,fun a e2=>?_⟩;cases e2;exact⟨o,e,ex.2.1⟩
 | _=>exact False.elim ty
def Vr (K:zdg)(T:String)(r:V->List V->Hp->VK->Prop)(to:TE):TE:=fun σ H Q=>to σ H fun x H1=>Wg K T x H1/\r x [] H1 Q
def tBM (K:zdg)(T:String)(r:V->List V->Hp->VK->Prop)(to:TE)(t:TA):TE:=fun σ H Q=>to σ H fun x H1=>Wg K T x H1/\t σ H1 fun xs H2=>r x xs H2 Q
variable {o e:Expr}{es:List Expr}{to:TE}{t:TA}{name:Str}{apos cpos:Pos}{T id:String}{r:V->List V->Hp->VK->Prop}
theorem wI (pa:PlainAttrs T)(slot:Slot T name id)(X4:typeOf (.builtin id)=pure (.type "method_descriptor"))(hm:Z2 X id r)(ho:PE X o to)
  (Jv:attributeBase o name X.env (eval o X.env)=eval o X.env:=by rfl)(Jw:(apos.endLine == cpos.line)=true:=by rfl):PE X (.Call (.Attribute o name apos) [] [] cpos) (Vr X.K T r to):=by
 intro ä s σ H Q I h;refine wpAny_Call_method0_late Jv Jw (nK (ho ä s σ H _ I h) fun v s1 ⟨x,H1,I1,r1,ty,q1⟩=>?_);obtain⟨h1,h2⟩:=HG I1 r1 ty;exact⟨T,id,pa,slot,X4,h1,h2,jI Z (PySem.evalArgs_none (hm ä s1 σ H1 x [] v [] Q I1 r1 .nil q1))⟩
theorem vy (pa:PlainAttrs T)(slot:Slot T name id)(X4:typeOf (.builtin id)=pure (.type "method_descriptor"))(hm:Z2 X id r)(ho:PE X o to)(ha:PA X (e::es) t)
  (Jv:attributeBase o name X.env (eval o X.env)=eval o X.env:=by rfl)
  (X5:((backTo cpos (starEach (e::es) X.env)).all (fun x=>!x.1) && (backToKw cpos (keywordEach [] X.env)).all (fun x=>x.1.isSome)
   && decide ((e::es).length+([]:List Keyword).length+(if ([]:List Keyword).isEmpty then 0 else 1)<30))=true:=by rfl)
  (Jw:(apos.endLine == cpos.line)=true:=by rfl)(hs:starEach (e::es) X.env=(false,eval e X.env)::starEach es X.env:=by rfl)(OB:(backTo cpos (starEach es X.env)).any (·.1)=false:=by rfl) :
  PE X (.Call (.Attribute o name apos) (e::es) [] cpos) (tBM X.K T r to t):=by
 intro ä s σ H Q I h;refine wpAny_Call_method_late Jv X5 Jw Z (nK (ho ä s σ H _ I h) fun v s1 ⟨x,H1,I1,r1,ty,q1⟩=>?_);obtain⟨h1,h2⟩:=HG I1 r1 ty;refine⟨T,id,pa,slot,X4,h1,h2,?_⟩;have hA:=ha cpos ä s1 σ H1 _ I1 q1;rw[hs] at hA ⊢;refine jI (by show (false || (backTo cpos (starEach es X.env)).any (·.1))=false;rw[OB]<;>rfl) (j6 ?_);exact nK hA fun us s2 ⟨vs,H2,I2,r2,q2⟩=>hm ä s2 σ H2 x vs v us Q I2 r1 r2 q2
end
def ZR (X:Cx)(id:String)(r:V->List V->Hp->VK->Prop):Prop :=
 ∀(ä:List (Addr×Obj))(s:Shared)(σ:St)(H:Hp)(x:V)(xs:List V)(v:Value)(us:List Value)(Q:VK),Inv X ä σ H s->RelV x v->Vals xs us->r x xs H Q ->
  wpAny (model X.prog X.w) X.A (call (.builtin id) (v::us)) (EP X ä σ Q) X.xe s
theorem Vals.one:∀{x:V}{us:List Value},Vals [x] us->∃u,us=[u]/\RelV x u
 | _,_,.cons r .nil=>⟨_,Z,r⟩
theorem Vals.zero:∀{us:List Value},Vals [] us->us=[]
 | _,.nil=>rfl
theorem Vals.rep {xs:List V}{us:List Value}(h:Vals xs us):∀k:Nat,Vals (List.replicate k xs).flatten (List.replicate k us).flatten
 | 0=>.nil
 | k+1=>by
  rw[cH,cH,eL,eL];exact Vals.append h (Vals.rep h k)
theorem foldl_rep (â:List Value):∀(k:Nat)(acc:List Value),
  List.foldl (fun x1 x2=>x1++x2) acc.toArray (List.replicate k â.toArray)=(acc++(List.replicate k â).flatten).toArray
 | 0,acc=>by simp
 | k+1,acc=>by
  have e:acc.toArray++â.toArray=(acc++â).toArray:=by simp
  have e2:(acc++â)++(List.replicate k â).flatten=acc++(List.replicate (k+1) â).flatten:=by
   rw[cH,eL,gN]
  rw[<-e2,<-foldl_rep â k (acc++â),<-e,cH,List.foldl_cons]
section
variable {X:Cx}{ä:List (Addr×Obj)}{σ:St}{H:Hp}{s:Shared}{l:Addr}{xs ys:List V}
theorem Inv.Wr {â its':List Value}{n:Nat}{f:Array Value->Array Value}{t':Nat}(I:Inv X ä σ H s)(hH:H l=some (.lst xs))
  (e:s.heap.get? l=some { cls:=.type "list",data:=.seq â.toArray n })(hf:f â.toArray=its'.toArray)(hv:Vals ys its')(hz:ys.length<=sizeLine) :
  Inv X ä σ (upd H l (.lst ys)) { s with heap:=s.heap.update l (Obj.mapSeq f),toks:=t' }:=by
 have q:=PySem.IsL.update e f;rw[hf] at q;refine I.write (x:=l) (e:=l) (by rw[hH];exact trivial) (.inl Z) (fun b' u hb hu=>(cP s.heap (Obj.mapSeq f) (cM hb)).trans hu) ⟨_,q⟩ ?_;exact⟨hz,its',_,hv,q⟩
theorem Inv.RJ {â:List Value}{t':Nat}(I:Inv X ä σ H s)(hv:Vals ys â)(hz:ys.length<=sizeLine) :
  Inv X ä σ (upd H s.heap.objs.size (.lst ys)) { s with heap:=s.heap.push { cls:=.type "list",data:=.seq â.toArray },toks:=t' } :=
 I.laid (fun _ _ q=>aM _ q) (aH _) ⟨hz,â,0,hv,bV _ Z⟩
theorem Inv.fresh (I:Inv X ä σ H s):H s.heap.objs.size=none:=I.hok.fresh (aH _)
theorem Inv.J4 (I:Inv X ä σ H s)(hH:H l=some (.lst xs)):xs.length<=sizeLine/\∃(â:List Value)(n:Nat),Vals xs â/\xs.length=â.length/\s.heap.get? l=some { cls:=.type "list",data:=.seq â.toArray n }:=by
 obtain⟨z,â,n,r,e⟩:=I.hok l _ hH;exact⟨z,â,n,r,r.length,e⟩
theorem G5 {n:Nat}(h:n<=sizeLine):Builtin.List.listTooLong n=false:=by
 unfold Builtin.List.listTooLong;exact dU kg
end
section
variable {X:Cx}
def Lo:V->List V->Hp->VK->Prop:=fun x vs H Q=>∃l xs y,x=.ref l/\vs=[y]/\H l=some (.lst xs)/\xs.length<sizeLine/\Q .non (upd H l (.lst (xs++[y])))
theorem oF:ZR X "list.append" Lo:=by
 intro ä s σ H x vs v us Q I rx rv h;obtain⟨l,xs,y,rfl,rfl,hH,hz,q⟩:=h;cases rx;obtain⟨u,rfl,ru⟩:=rv.one;obtain⟨z,â,n,r,hl,e⟩:=I.J4 hH;refine call_meets F.slot_list_append ⟨_,e,Z⟩ F.entry_list_append (F.args_list_append_2 _ _) (PySem.list_append l â.toArray n u (by rw[cB];omega)) ⟨e,?_⟩;refine⟨.non,_,I.Wr (its':=â++[u]) hH e ke (r.append (.cons ru .nil)) ?_,Z,q⟩;rw[aI,dJ];omega
def WV:R2:=fun x y H Q=>∃l b xs zs,x=.ref l/\y=.ref b/\H l=some (.lst xs)/\H b=some (.lst zs)/\xs.length+zs.length<=sizeLine/\∀p,H p=none->Q (.ref p) (upd H p (.lst (xs++zs)))
theorem ua:uT X (binaryOp .Add) WV:=by
 intro ä s σ H x y v u Q I rx ry h;obtain⟨l,b,xs,zs,rfl,rfl,hH,hB,hz,q⟩:=h;cases rx;cases ry;obtain⟨z,â,n,r,hl,e⟩:=I.J4 hH;obtain⟨z2,RX,n2,r2,OC,e2⟩:=I.J4 hB;refine PySem.P.add_list e e2 ?_ (by rw[cB,cB];omega);have ea:â.toArray++RX.toArray=(â++RX).toArray:=by simp
 rw[ea];exact⟨.ref _,_,I.RJ (t':=s.toks) (r.append r2) (by rw[aI];omega),Z,q _ I.fresh⟩
def U9:R2:=fun x y H Q=>∃l k xs,x=.ref l/\y=.int k/\H l=some (.lst xs)/\-(2^63)<=k/\k<2^63/\xs.length*k.toNat<=sizeLine /\
 ∀p,H p=none->Q (.ref p) (upd H p (.lst (List.replicate k.toNat xs).flatten))
theorem len_rep {α:Type}(xs:List α)(k:Nat):(List.replicate k xs).flatten.length=k*xs.length:=by
 induction k with
 | zero=>simp
 | succ k ih=>rw[cH,eL,aI,ih,gZ,Nat.add_comm]
theorem pJ:uT X (binaryOp .Mult) U9:=by
 intro ä s σ H x y v u Q I rx ry h;obtain⟨l,k,xs,rfl,rfl,hH,h1,h2,hz,q⟩:=h;cases rx;obtain⟨t,rfl⟩:=ry;obtain⟨z,â,n,r,hl,e⟩:=I.J4 hH;have ì:â.toArray.size*k.toNat<=sizeLine:=by rw[cB,<-hl];exact hz
 have xX:¬â.toArray.size*k.toNat > (2^63-1)/8:=by
  have:(sizeLine:Nat)<=(2^63-1)/8:=O;omega
 have X6:¬(!Builtin.List.listFitsIndex k)=true:=by
  rw[fitsIndex_both h1 h2];exact aU
 have RY:¬Builtin.List.listTooLong (â.toArray.size*k.toNat)=true:=by
  rw[G5 ì];exact aU
 have X7:List.foldl (fun x1 x2=>x1++x2) #[] (List.replicate (if â.toArray.isEmpty=true then 0 else k.toNat) â.toArray)=(List.replicate k.toNat â).flatten.toArray:=by
  have f0:∀m:Nat,List.foldl (fun x1 x2=>x1++x2) #[] (List.replicate m â.toArray)=(List.replicate m â).flatten.toArray:=fun m=>by
   have:=foldl_rep â m [];rw[iJ] at this;exact this
  rw[f0];cases â with
  | nil=>simp
  | cons a r'=>rw[ak ke]
 refine wpAny_binaryOp_repeat_ref (T:="list") (U:="int") O ⟨_,e,Z⟩ (fun s'=>typeIs_int s' k t) noFill_list_mul F.fills_int_mul F.slot_int_rmul repeat_list F.slot_int_index.lookup
  (call_meets F.slot_int_rmul (typeIs_int s k t) F.entry_int_rmul (F.args_int_rmul_2 _ _) (int___rmul___int_list k t l â.toArray n)
   ⟨e,Z,⟨_,e,Z⟩,call_meets F.slot_list_mul ⟨_,e,Z⟩ F.entry_list_mul (F.args_list_mul_2 _ _) (AutoListH.list___mul___list_int_3 l â.toArray n k t X6 xX RY) ⟨e,?_⟩⟩)
 rw[X7];exact⟨.ref _,_,I.RJ (t':=s.toks) (r.rep k.toNat) (by rw[len_rep,f9];exact hz),Z,q _ I.fresh⟩
end
end L2
namespace Att
open PySem PySem.W PySem.Calls PyProof.Rows
theorem vW {P:Params}{h:Heap}:∀(ns:List Int)(vs:List Value),WellAll P h vs (ns.map WData.int)->IntsAre vs ns:=by
 intro ns
 induction ns with
 | nil =>
  intro vs w;rw[iZ] at w;cases w;exact .nil
 | cons n ns ih =>
  intro vs w;rw[c5] at w;cases w with
  | cons a b =>
   cases a;exact .cons _ _ (ih _ b)
theorem Ge {l:OpenLaw}{n:Nat}(hn:l.most=some n){P:Params}{h:Heap}{args:List WData}{vals:List Value}
  (Gk:l.row.toRowW.claim.pre args=true)(RZ:WellAll P h vals args) :
  ∃a vs ns,vals=[Value.ref a]/\args=[WData.list (ns.map WData.int)]/\h.get? a=some { cls:=.type "list",data:=.seq vs.toArray }/\IntsAre vs ns/\ns.length<=n:=by
 have hsh:WShape.hasAll [] args [.list .int]=true:=(pre_splitW Gk).1;have hc:l.pre.holds [] { args:=args }=true:=(pre_splitW Gk).2;obtain⟨d,r,rfl,h1,h2⟩:=hasAllW_cons hsh;obtain rfl:=hasAllW_nil h2;obtain⟨xs,rfl,h3⟩:=hasW_list h1;obtain⟨ns,rfl⟩:=items_int h3;have ì:ns.length<=n:=by
  unfold OpenLaw.pre at hc;have h4:(WTm.not (.lt (.lit (.int (n:Int))) (.len (.arg 0)))).holds [] { args:=[.list (ns.map .int)] }=true:=by
   have h4:=(holds_andW hc).1;rw[hn] at h4;exact h4
  have h5:=condW_of h4 (w_not (w_lt w_lit (w_len_list (w_arg Z))));rw[aa] at h5;refine fO fun q=>?_;have q':(n:Int)<((ns.length:Nat):Int):=kg
  first
   | (rw[b5 q'] at h5;exact absurd h5 O)
   | (simp at h5;omega)
 cases RZ with
 | cons w1 w2 =>
  cases w2;cases w1 with
  | list ho X8=>exact⟨_,_,ns,Z,Z,ho,vW ns _ X8,ì⟩
theorem FE (l:OpenLaw)(args:List WData):l.row.toRowW.claim.post args (.bool true) args=true :=
 postW_of (r:=l.row.toRowW) (X:=(true == true))
  (show WShape.has [] (.bool true) .bool=true by first | rfl | decide | simp[WShape.has,WShape.arms,WShape.armsAll])
  (show (WTm.eq .res (.lit (.bool true))).value [] { args:=args,res:=some (.bool true),after:=args }=some (.bool (true == true)) from w_eq_bool (w_res Z) w_lit) Z
theorem Bp {l:OpenLaw}{n:Nat}{q:Program}{loose:List Str}{XP:(Str->Option Value)->Heap->Prop}{YP:World->Heap->Prop}{d:DefRec}
  (hn:l.most=some n)(R0:d.params.defaults=[])
  (call:∀(w:World)(s₀ s₁:Shared)(mg mb:Str->Option Value)(fa:Addr)(o:Obj)(pm cd doc:Value)(a:Addr)(vs:List Value)(ns:List Int),
   Ground q loose [] XP w s₀ mg mb s₁.heap->YP w s₁.heap ->
   s₁.heap.get? fa=some o->o.data=.func (docDef d.name d.params d.body d.scope pm cd doc)->s₁.heap.CodeRec cd d.name->mg d.name=some (.ref fa) ->
   s₁.heap.get? a=some { cls:=.type "list",data:=.seq vs.toArray }->IntsAre vs ns->ns.length<=n->s₁.gens=#[] ->
   codeAny (model l.prog w) callerA (.call (.ref fa) ⟨[.ref a],[]⟩) (fun r s'=>r=.ok (.ret (.bool true))/\OldK s₁.heap s'.heap/\s'.os=s₁.os/\AllBare s'.gens) s₁) :
  WalkO q loose XP YP l.row.toRowW d [] (fun f vs=>PySem.call f vs):=by
 intro w s₀ s₁ mg mb G Y fa o pm cd doc dV kV ho hd vP hD OD hg args vals as Gk R1 hrd RZ zD;obtain rfl:dV=.none:=Dflts.none hD R0;obtain rfl:kV=.none:=Dflts.noKw hD;obtain⟨a,vs,ns,rfl,rfl,OE,hints,ì⟩:=Ge hn Gk RZ;refine enter_call (gP (call w s₀ s₁ mg mb fa o pm cd doc a vs ns G Y ho (fd_plain hd) vP OD OE hints ì hg) fun r s' hq=>?_);obtain⟨rfl,h2,h3,h4⟩:=hq;exact⟨.inl ⟨.bool true,.bool true,[],Z,fun _=>Z,.bool true,FE l _,fun _=>⟨List.Pairwise.nil,fun _ hm=>(nomatch hm)⟩⟩,h2,h3,h4⟩
end Att
namespace L2
open PySem PySem.Spec PyProof.Rows
theorem zq:∀{vs:List Value}{ns:List Int},IntsAre vs ns->Vals (ns.map zaa) vs
 | _,_,.nil=>.nil
 | _,_,.cons n t h=>.cons ⟨t,Z⟩ (zq h)
def M5 (H:Hp):Prop:=∀b,H b=none\/∃o xs,H b=some (.frz o (.lst xs))
theorem GZ {P:Program}{w:World}{K:zdg}{mg mb:Str->Option Value}{CX:Gi}{k:Nat}{fa a:Addr}{fd:FuncData}{x:Str}{sp:Sp}{s₁:Shared}{vs:List Value}{ns:List Int}
  (KX:K.In s₁.heap)(hns:s₁.heap.Ns mainGlobals mg)(hb:s₁.heap.Ns builtinsNs mb)(TU:∀x:Str,x≠"__name__"->mb x=bootBuiltins x)(X9:s₁.heap.NoLimit)(hg:s₁.gens=#[])
  (ha:s₁.heap.get? a=some { cls:=.type "list",data:=.seq vs.toArray })(hi:IntsAre vs ns)(hl:ns.length<=sizeLine)(hr:nZ k callerA)
  (F:∀base:Heap,K.In base->base.Ns mainGlobals mg->pK P w K mg base CX k fa fd [x] sp)(R3:∀(s:Shared)(u:Value),BindsTo s fd ⟨[u],[]⟩ [(x,u)])
  (hsp:∀H:Hp,M5 H->kR K H a (ns.map zaa)->sp [.ref a] H (fun v _=>v=.bl true) fun _ _ _=>eC)
  (hCX:∀H e s',CX [] H s₁ (fun _ _ _=>eC) e s'->eC) :
  codeAny (model P w) callerA (.call (.ref fa) ⟨[.ref a],[]⟩) (fun r s'=>r=.ok (.ret (.bool true))/\OldK s₁.heap s'.heap/\s'.os=s₁.os/\AllBare s'.gens) s₁:=by
 have rv:=zq hi;have Yb:=hi.length
 -- from an abstract heap in zah nothing but the script may be tracked
 have core:∀H:Hp,M5 H->kR K H a (ns.map zaa)->vh P w H s₁.heap->(∀b,H b≠none->b=a)->(H a≠none->K.lookup a=none) ->
   codeAny (model P w) callerA (.call (.ref fa) ⟨[.ref a],[]⟩) (fun r s'=>r=.ok (.ret (.bool true))/\OldK s₁.heap s'.heap/\s'.os=s₁.os/\AllBare s'.gens) s₁:=by
  intro H hO hS hok hA hK;have base_of:∀{b:Addr}{o:Obj},s₁.heap.get? b=some o->H b=none->(Az s₁.heap H).get? b=some o:=fun e n=>IZ e n;have noA:∀{b:Addr}{o:Obj}{es:Array DictEntry}{ep:Nat},s₁.heap.get? b=some o->o.data=.dict es ep->H b=none:=fun {b o es ep} e d=>by
   cases q:H b with
   | none=>rfl
   | some u =>
    have e':b=a:=hA b (by rw[q];simp);subst e';rw[ha] at e;cases e;have d':Data.seq vs.toArray _=Data.dict es ep:=d;cases d'
  have TV:∀{b:Addr}{m:Str->Option Value},s₁.heap.Ns b m->(Az s₁.heap H).Ns b m:=fun {b m} ⟨o,es,ep,e,d,r⟩=>⟨o,es,ep,base_of e (noA e d),d,r⟩;have hKb:K.In (Az s₁.heap H):=fun b o e=>base_of (KX b o e) (by
   cases q:H b with
   | none=>rfl
   | some u =>
    have e':b=a:=hA b (by rw[q];simp);subst e';rw[hK (by rw[q];simp)] at e;cases e)
  have hM:Mod K mg (Az s₁.heap H):=⟨hKb,TV hns,⟨mb,TV hb,TU⟩,let ⟨mc,h1,h2⟩:=X9;⟨mc,TV h1,h2⟩⟩;have e0:C4 P w K mg (Az s₁.heap H) callerA [] s₁ H:=⟨Z,hM,fun b o e=>K2 e,iX (Gh _ _),trivial,fun b hb=>absurd (show b∈([]:List Addr) from hb) ke,hok,.of_eq hg⟩;refine gP ((F _ hKb (TV hns)).run callerA [] s₁ H ⟨[.ref a],[]⟩ [.ref a] [.ref a] _ _ hr e0 (R3 s₁ (.ref a)) (.cons Z .nil) (hsp H hO hS)) fun r s' h=>?_;cases r with
  | error e=>exact(hCX H e s' h).elim
  | ok fl =>
   cases fl with
   | next=>exact False.elim h
   | brk=>exact False.elim h
   | cont=>exact False.elim h
   | ret u =>
    obtain⟨v,H',os,bare,un,Yc,r',q⟩:=h;have q':v=.bl true:=q;subst q';obtain rfl:u=Value.bool true:=r';refine⟨Z,OldK.of_keep fun b o e=>?_,os,bare⟩;cases q:H b with
    | none=>exact un.keep b o e q (by intro z;exact absurd (show b∈([]:List Addr) from z) ke) ke
    | some u =>
     rcases hO b with z | ⟨ob,xs,z⟩
     .rw[q] at z;cases z
     .have z2:=un.frzs b ob _ z;obtain⟨e1,_⟩:=hok b _ z;obtain⟨e2,_⟩:=Yc b _ z2;rw[e] at e1;cases e1;exact e2
 cases hk:K.lookup a with
 | some o =>
  -- the script is one of the R4 own objects
  have e:=KX a o hk;rw[ha] at e;cases e;refine core (fun _=>none) (fun _=>.inl Z) (.inr ⟨_,vs.toArray,_,hk,Z,Z,Z,by rw[cB,Yb];exact hl,by simpa using rv⟩) (fun b u z=>by have z':(none:Option HO)=some u:=z;cases z') (fun b z=>absurd Z z) fun z=>absurd Z z
 | none =>
  refine core (fun b=>if b=a then some (.frz { cls:=.type "list",data:=.seq vs.toArray } (.lst (ns.map zaa))) else none) (fun b=>?_) (.inl (.inr ⟨{ cls:=.type "list",data:=.seq vs.toArray },aB Z⟩)) (fun b u z=>?_) (fun b z=>?_) fun _=>hk
  .by_cases hb:b=a
   .exact .inr ⟨_,_,aB hb⟩
   .exact .inl (ak hb)
  .by_cases hb:b=a
   .have z':=(aB hb).symm.trans z;cases z';subst hb;exact⟨ha,by rw[aa];exact hl,vs,_,rv,ha⟩
   .have z':=(ak hb).symm.trans z;cases z'
  .by_cases hb:b=a
   .exact hb
   .exact absurd (ak hb) z
theorem Ke {l:PySem.W.OpenLaw}{n k:Nat}{q:Program}{loose:List Str}{XP:(Str->Option Value)->Heap->Prop}{YP:World->Heap->Prop}{d:DefRec}{K:Params->zdg}{CX:World->Gi}{sp:World->Sp}{x:Str}
  (hn:l.most=some n)(TR:n<=sizeLine)(R0:d.params.defaults=[])(hr:nZ k callerA)
  (hY:∀(w:World)(h:Heap),YP w h->(K w.params).In h)
  (F:∀(w:World)(mg:Str->Option Value)(fa:Addr)(h:Heap),(K w.params).In h->h.Ns mainGlobals mg->mg d.name=some (.ref fa) ->
   ∃fd:FuncData,(∀(s:Shared)(u:Value),BindsTo s fd ⟨[u],[]⟩ [(x,u)]) /\
    ∀base:Heap,(K w.params).In base->base.Ns mainGlobals mg->pK l.prog w (K w.params) mg base (CX w) k fa fd [x] (sp w))
  (hsp:∀(w:World)(H:Hp)(a:Addr)(ns:List Int),ns.length<=n->M5 H->kR (K w.params) H a (ns.map zaa)->sp w [.ref a] H (fun v _=>v=.bl true) fun _ _ _=>eC)
  (hCX:∀(w:World)(H:Hp)(s:Shared)(e:Value)(s':Shared),CX w [] H s (fun _ _ _=>eC) e s'->eC) :
  PySem.W.WalkO q loose XP YP l.row.toRowW d [] (fun f vs=>PySem.call f vs):=by
 refine Att.Bp hn R0 fun w s₀ s₁ mg mb fa o pm cd doc a vs ns G Y ho hd vP OD OE hints ì hg=>?_;have KX:=hY w _ Y;obtain⟨fd,hb,hF⟩:=F w mg fa _ KX G.T.g OD;exact GZ KX G.T.g G.T.b G.T.builtins G.T.nolimit hg OE hints (bQ ì TR) hr hF hb (fun H hO hS=>hsp w H a ns ì hO hS) fun H e s'=>hCX w H s₁ e s'
variable {A B:Prop}
def inClass (s:Stmt)(j:Nat):Stmt:=match s with
 | .ClassDef _ _ _ body _ _ _ _ _ _ _=>body.getD j (.Pass ⟨0,0,0,0⟩)
 | _=>.Pass ⟨0,0,0,0⟩
def mZ (s:Stmt):Arguments:=match s with
 | .FunctionDef _ a _ _ _ _ _ _ _ _=>a
 | _=>{ posonlyargs:=[],args:=[],vararg:=none,kwonlyargs:=[],kw_defaults:=[],kwarg:=none,defaults:=[] }
def mH (s:Stmt):List Stmt:=match s with
 | .FunctionDef _ _ b _ _ _ _ _ _ _=>b
 | _=>[]
def kG (s:Stmt):Scope:=match s with
 | .FunctionDef _ _ _ _ _ _ sc _ _ _=>sc
 | _=>{ kind:=.function,names:=[],isGenerator:=false,isCoroutine:=false }
abbrev Dl:Gi:=fun _ _ _ _ _ _=>eC
abbrev E0:XK:=fun _ _ _=>eC
theorem Ht {X:Cx}:Passes Dl X E0:=fun _ _ _ _ _ _ _ h=>h.elim
structure Ez (K:zdg)(x ç:Str)(st:Stmt)(f:Addr)(fd:FuncData):Prop where
 ex:∃(oc:Value)(od:Option Addr)(kV doc pm:Value)(an:Option Addr)(cdv ct:Value)(osl:Array (Option Value)),
  fd=PySem.W.fnOf x ç (mZ st) (mH st) (kG st) .none kV doc pm an cdv ct/\K.lookup f=some ⟨oc,od,.func fd,osl⟩/\PySem.W.codeIn K cdv ç=true
 kp:PySem.W.keepIn K (.ref f)=true
section
variable {P:Program}{w:World}{K:zdg}{mg:Str->Option Value}{base:Heap}
theorem Ez.ok {x ç:Str}{st:Stmt}{f:Addr}{fd:FuncData}{N ps:List Str}{k:Nat}{sp:Sp}(F:Ez K x ç st f fd)(S:kL N ps (kG st))(len:∀vs H Q E,sp vs H Q E->vs.length=ps.length)
  (hbody:∀(cdv:Value)(A:Around)(outer:List Env)(s:Shared)(H:Hp)(vs:List V)(Q:VK)(E:XK),nZ k (A.deeper (envOfC ç (kG st) s.heap.objs.size f cdv))->sp vs H Q E ->
   ∃t,yu (qX Dl P w K mg base N ç (kG st) f cdv A outer s H E).Fc (mH st) t/\t { nx:=fun _ H'=>Q .non H',rt:=Q } (start N vs) H):pK P w K mg base Dl (k+1) f fd ps sp:=by
 obtain⟨oc,od,kV,doc,pm,an,cdv,ct,osl,rfl,lk,vP⟩:=F.ex;refine LZ lk vP S len fun A outer s H vs Q E hr hsp=>?_;obtain⟨t,h,q⟩:=hbody cdv A outer s H vs Q E hr hsp;exact⟨t,h.Fc,q⟩
theorem Ez.binds {x ç:Str}{st:Stmt}{f:Addr}{fd:FuncData}{ps:List Str}(F:Ez K x ç st f fd)
  (h:∀(kV doc pm:Value)(an:Option Addr)(cdv ct:Value)(us:List Value),us.length=ps.length->bindArgs (PySem.W.fnOf x ç (mZ st) (mH st) (kG st) .none kV doc pm an cdv ct) ⟨us,[]⟩=pure (ps.zip us)):Binds K fd ps []:=by
 obtain⟨oc,od,kV,doc,pm,an,cdv,ct,osl,rfl,lk,vP⟩:=F.ex;exact .all (h kV doc pm an cdv ct)
theorem II {x ç:Str}{st:Stmt}{f:Addr}{oc:Value}{od an:Option Addr}{osl:Array (Option Value)}{kV doc pm cdv ct:Value}(l:K.lookup f=some ⟨oc,od,.func (PySem.W.fnOf x ç (mZ st) (mH st) (kG st) .none kV doc pm an cdv ct),osl⟩)
  (c:PySem.W.codeIn K cdv ç=true)(k:PySem.W.keepIn K (.ref f)=true):Ez K x ç st f (PySem.W.fnOf x ç (mZ st) (mH st) (kG st) .none kV doc pm an cdv ct):=⟨⟨oc,od,kV,doc,pm,an,cdv,ct,osl,Z,l,c⟩,k⟩
end
section
variable {X:Cx}
theorem pv (i:Nat){x:Str}{pos:Pos}(hN:X.N[i]?=some x:=by rfl)(hv:Tx X.env.scope x:=by first | exact Or.inl Z | exact Or.inr (Or.inl Z) | exact Or.inr (Or.inr Z))(hd:(x == ("__debug__":Str))=false:=by decide)
  (vP:(x == ("__classdict__":Str))=false:=by decide):PE X (.Name x pos) (RN i):=Nx hN hv hd vP
end
theorem uK (h:B):if false=true then A else B:=by
 rw[ak aU];exact h
theorem FV (h:A):if true=true then A else B:=by
 rw[aB Z];exact h
theorem nw {c:Prop} [Decidable c] (h1:c->A)(h2:¬c->B):if c then A else B:=by
 by_cases h:c
 .rw[aB h];exact h1 h
 .rw[ak h];exact h2 h
theorem A6 {c:Prop} [Decidable c] (hc:c)(h:B):if (!decide c)=true then A else B:=by
 rw[b5 hc];exact uK h
def kD (H H':Hp):Prop:=∀b o,H b=some o->H' b=some o
theorem kD.refl (H:Hp):kD H H:=fun _ _ h=>h
theorem kD.trans {H H1 H2:Hp}(a:kD H H1)(b:kD H1 H2):kD H H2:=fun c o h=>b c o (a c o h)
theorem kD.free {H H':Hp}(e:kD H H'){l:Addr}(h:H' l=Option.none):H l=Option.none:=by
 cases q:H l with
 | none=>rfl
 | some o =>
  rw[e l o q] at h;cases h
theorem kD.seq {K:zdg}{H H':Hp}{a:Addr}{xs:List V}(e:kD H H')(h:kR K H a xs):kR K H' a xs:=by
 rcases h with (h | ⟨o,h⟩) | h
 .exact .inl (.inl (e _ _ h))
 .exact .inl (.inr ⟨o,e _ _ h⟩)
 .exact .inr h
set_option maxHeartbeats 5000000
variable {cl:List (Str×Addr)}{ifs:List Expr}{n9:List (Str×Nat)}{pX:List Str}{g:TG}{tc:TT}{te:TE}
section
variable {A:Around}{prog:Program}{w:World}{s:Shared}{R:Result->Shared->Prop}
theorem z7 {el TX src:Expr}{tests:List Expr}{sc:Scope}{ps:Pos}{ME ac:Value}{env:Env}(ziS:Nat->Shared->Prop)
  (trn:∀k t,ziS k t->wpAny (model prog w) A (pyNext ME) (fun z Gm=>match z with
   | none=>R (.ok .next) Gm
   | some v=>wpAny (model prog w) A (letOwnedTupleGo TX ME v) (fun _ Gm=>wpAny (model prog w) A (assign TX env v) (fun _ R5 =>
     wpAny (model prog w) A (forIn tests true fun tst go=>if go=true then do let yes <-isTrue tst env (eval tst env);pure (ForInStep.yield yes) else pure (ForInStep.yield go)) (fun yes OF =>
      if yes=true then wpAny (model prog w) A (eval el env) (fun x R6 =>
       wpAny (model prog w) A (call (.builtin "list.append") [ac,x]) (fun _ R7=>∃m,m<k/\ziS m R7) (fun _ _=>eC) R6) (fun _ _=>eC) OF
      else ∃m,m<k/\ziS m OF) (fun _ _=>eC) R5) (fun _ _=>eC) Gm) (fun _ _=>eC) Gm) (fun _ _=>eC) t)
  (k:Nat)(h:ziS k s):codeAny (model prog w) A (.compLoop (.ListComp el [⟨TX,src,tests,0⟩] sc ps) 0 ME ac env) R s:=by
 refine codeAny_loop Z ziS (fun k t hJ=>?_) k h;refine(wpAny_noted (m:=compTurn (.ListComp el [⟨TX,src,tests,0⟩] sc ps) 0 ME ac env) ?_:wpAny _ A _ _ _ t);rw[compTurn_list];refine aO (jw (aO (c9 (trn k t hJ) (fun z Gm LB=>?_) fun _ _ f=>f.elim)));cases z with
 | none=>exact bX LB
 | some v =>
  refine aO (c9 LB (fun _ Gm LB=>?_) fun _ _ f=>f.elim);refine aO (c9 LB (fun _ R5 Yd=>aO (c9 Yd (fun yes OF R8=>?_) fun _ _ f=>f.elim)) fun _ _ f=>f.elim);cases yes with
  | false=>exact bX (And.intro Z R8)
  | true =>
   exact aO (aO (c9 R8 (fun x R6 Ye=>aO (c9 Ye (fun _ R7 Yg=>bX (bX ⟨Z,Yg⟩)) fun _ _ f=>f.elim)) fun _ _ f=>f.elim))
end
theorem Ea {cells:List (Str×Addr)}:∀x c,([]:List (Str×Addr)).lookup x=some c->cells.lookup x=some c:=fun _ _ h=>by cases h
theorem Br {cells r:List (Str×Addr)}{k:Str}{a:Addr}(h1:cells.lookup k=some a)(h2:∀x c,r.lookup x=some c->cells.lookup x=some c) :
  ∀x c,((k,a)::r).lookup x=some c->cells.lookup x=some c:=fun x c h=>by
 rw[iz] at h;cases e:x == k with
 | true =>
  rw[e] at h;have:x=k:=by simpa using e
  subst this;cases h;exact h1
 | false =>
  rw[e] at h;exact h2 x c h
theorem uA {env:Env}:∀{names:List (Str×NameKind)}{x:Str},(∀y∈names,y.2≠.cell) ->
    ((names.map fun (n,k)=>if (k == NameKind.free && env.scope.kind == .function && env.kindOf n == some .cell) then (n,NameKind.cell) else (n,k)).lookup x=some .cell \/
     (names.map fun (n,k)=>if (k == NameKind.free && env.scope.kind == .function && env.kindOf n == some .cell) then (n,NameKind.cell) else (n,k)).lookup x=some .free)->(x,NameKind.free)∈names
  | [],x,_,h=>by simp at h
  | (n,k)::r,x,hc,h=>by
    have ih:=@uA env r x (fun y hy=>hc y (ar _ hy));rw[c5] at h;dsimp only at h
    by_cases c:(k == NameKind.free && env.scope.kind == .function && env.kindOf n == some .cell)=true
    · have hk:k=.free:=by
        have:=(gi.mp (gi.mp c).1).1;cases k<;>first | rfl | (exact absurd this O)
      rw[aB c,iz] at h;cases e:x == n with
      | true =>
        have:x=n:=by simpa using e
        subst this;subst hk;exact av
      | false =>
        rw[e] at h;exact ar _ (ih h)
    · rw[ak c,iz] at h
      cases e:x == n with
      | true =>
        have:x=n:=by simpa using e
        subst this;rw[e] at h;rcases h with h | h
        · exact absurd (bL h) (hc (x,k) av)
        · have:=bL h
          subst this;exact av
      | false =>
        rw[e] at h;exact ar _ (ih h)
theorem El {names:List (Str×NameKind)}(h:names.all (fun y=>!(y.2 == NameKind.free) || (cl.lookup y.1).isSome)=true):∀y∈names,y.2=.free->∃c,cl.lookup y.1=some c:=fun y hy e=>by
 have q:=dL.mp h y hy;rw[e] at q;exact iR.mp (by simpa using q)
theorem DY {α:Type}{F:α->Prop}:∀p∈([]:List α),F p:=fun _ h=>(nomatch h)
theorem BU {α:Type}{F:α->Prop}{p:α}{l:List α}(h:F p)(r:∀q∈l,F q):∀q∈p::l,F q:=fun q hq=>by
 rcases List.mem_cons.mp hq with e | e
 .rw[e];exact h
 .exact r q e
def mB (X:Cx)(scope:Scope)(cl:List (Str×Addr))(N':List Str)(C:Addr)(s:Shared)(H:Hp)(fp:List Addr):Cx where
 prog:=X.prog
 w:=X.w
 K:=X.K
 mg:=X.mg
 base:=X.base
 A:=X.A
 N:=N'
 s₀:=s
 H₀:=H
 env:=compEnvC scope cl C X.env
 outer:=X.stack
 stack:=X.stack
 ex:=fp
 fn:=fun _=>false
 calm:=X.calm
 pn:=[]
 xe:=fun _ _=>eC
def Mw (X:Cx)(ifs:List Expr)(t:TT):Prop :=
 ∀(ä:List (Addr×Obj))(s:Shared)(σ:St)(H:Hp)(Q:Bool->Hp->Prop),Inv X ä σ H s->t σ H Q ->
  wpAny (model X.prog X.w) X.A (forIn ifs true fun c r=>if r=true then do let ok <-isTrue c X.env (eval c X.env);pure (ForInStep.yield ok) else pure (ForInStep.yield r)) (TP X ä σ Q) X.xe s
def yv:TT:=fun _ H Q=>Q true H
theorem lC {X:Cx}:Mw X [] yv:=fun _ _ _ H _ I h=>wpAny_tests_nil ⟨H,I,h⟩
theorem En {X:Cx}{c:Expr}{t:TT}(h:PT X c t):Mw X [c] t:=fun ä s σ H Q I q=>wpAny_tests_one (h ä s σ H Q I q)
def qF (n9:List (Str×Nat))(k:Nat)(σ:St):St:=n9.map (fun p=>(σ[p.2]?).join)++List.replicate k none
def oh (ziS:It)(g:TG)(tc:TT)(te:TE)(mw:St)(Q:VK)(H1:Hp):Prop :=
 ∃W:Nat->Nat->List V->Hp->Prop,(∃m,W 0 m [] H1)/\∀i m ys H,W i m ys H ->
  (ziS.stop i H/\∀D,H D=none->Q (.ref D) (upd H D (.lst ys))) \/
  (ziS.go i H/\ys.length<sizeLine/\∃N:List V->Hp->Prop,(∀OG H',N OG H'->∃m',m'<m/\W (i+1) m' OG H') /\
   ∀x H',ziS.yld i H x H'->g x mw H' fun n8 H2=>tc n8 H2 fun b H3=>if b=true then te n8 H3 fun y H4=>N (ys++[y]) H4 else N ys H3)
def Bh (n9:List (Str×Nat))(k:Nat)(wi:TI)(g:TG)(tc:TT)(te:TE):TE:=fun σ H Q=>wi σ H fun ziS H1=>oh ziS g tc te (qF n9 k σ) Q H1
def sI (n:Nat)(g:TG):Prop:=∀x σ H Q,g x σ H Q->g x σ H fun n8 H2=>(n8.length=σ.length/\∀j,j<n->n8[j]?=σ[j]?)/\Q n8 H2
theorem vE {n i:Nat}(h:n<=i):sI n (mM i):=fun x σ H Q q=>⟨⟨ke,fun j hj=>by rw[List.getElem?_set_ne kg]⟩,q⟩
abbrev xj (us:List Value):Obj:={ cls:=.type "list",data:=.seq us.toArray us.length }
structure Fin (X:Cx)(ä:List (Addr×Obj))(H:Hp)(s:Shared)(C:Addr):Prop where
 none:H C=Option.none
 loc:C≠X.env.locals
 sz:X.s₀.heap.objs.size<=C
 cel:∀x c,X.env.cells.lookup x=some c->c≠C
 pin:∀p∈X.pn++ä,p.1≠C
 ns:∃m,s.heap.Ns C m
theorem Fin.go {X:Cx}{ä:List (Addr×Obj)}{σ:St}{H:Hp}{s:Shared}{C:Addr}(f:Fin X ä H s C)(I:Inv X ä σ H s){h':Heap}(sb:Heap.SameBut C s.heap h'):Inv X ä σ H { s with heap:=h' } :=
 I.turned (t':=s.toks) (it:=C) (fun b o hb e=>(sb.2 b hb).trans e) f.none f.loc (.inr f.sz) f.cel f.pin
theorem za {X:Cx}{elt iter tg:Expr}{scope:Scope}{pos pos':Pos}{wi:TI}
 (hc:X.calm=true)(uN:closureFor scope X.env=pure cl)(q9:scope.kind=.function)
 (rK:∀x∈scope.names,x.2=.local->scope.names.lookup x.1=some .local)(qZ:∀y∈scope.names,y.2≠.cell)
 (r8:∀y∈scope.names,y.2=.free->∃c,cl.lookup y.1=some c)
 (sZ:∀x c,cl.lookup x=some c->X.env.cells.lookup x=some c)
 (xX:∀p∈n9,X.N[p.2]?=some p.1/\(X.env.kindOf p.1=some .cell\/X.env.kindOf p.1=some .free)/\((relabel scope X.env).names.lookup p.1=some .cell\/(relabel scope X.env).names.lookup p.1=some .free)/\∃c,cl.lookup p.1=some c)
 (hl:sI n9.length g)(hi:PI X tg iter wi)
 (hb:∀C s H fp,PG (mB X scope cl (n9.map (·.1)++pX) C s H fp) tg g/\Mw (mB X scope cl (n9.map (·.1)++pX) C s H fp) ifs tc/\PE (mB X scope cl (n9.map (·.1)++pX) C s H fp) elt te)
 (hs:∀x,foldedSetIterable iter X.env x=pure x)
 {ä:List (Addr×Obj)}{s:Shared}{σ:St}{H:Hp}{Q:VK}{Qp:Value->Shared->Prop}{use:Option (Value->Sem Unit)}(I:Inv X ä σ H s)(h:Bh n9 pX.length wi g tc te σ H Q)
 (fin:∀D C H' s',Inv X ä σ H' s'->Fin X ä H' s' C->Q (.ref D) H'->compPost (model X.prog X.w) X.A X.xe use Qp (.ref D) C (.ok .next) s') :
    wpAny (model X.prog X.w) X.A (comprehension (.ListComp elt [⟨tg,iter,ifs,0⟩] scope pos) scope X.env pos' (newList []) false (eval iter X.env) use) Qp X.xe s:=by
  refine wpAny_comprehension_free (g:=⟨tg,iter,ifs,0⟩) (gs:=[]) Z hs uN q9 rK ?_;refine nK (hi ä s σ H _ I h) fun v s1 h1=>nK h1 fun ME s2 h2=>?_;obtain⟨it,fp,tn,ziS,H2,e,I2,T,MF,f2,W,⟨m0,w0⟩,turn⟩:=h2;subst e;refine wpAny_newObj_type (wpAny_newFunctionEnv qZ (fun y hy=>(by simp at hy)) (fun LC DP hsb₁=>?_) q9);dsimp only at DP hsb₁ ⊢;generalize Yh:s2.heap.push { cls:=.type "list",dict:=none,data:=.seq ([]:List Value).toArray }=HH at DP hsb₁ ⊢;have hC:HH.objs.size=s2.heap.objs.size+1:=by rw[<-Yh,ii]
  have Yi:s2.heap.objs.size≠HH.objs.size:=by rw[hC];exact cy (bO _)
  have below:∀b,b<s2.heap.objs.size->b≠HH.objs.size/\b≠s2.heap.objs.size:=fun b hb=>⟨by rw[hC];exact cy (bK hb),cy hb⟩;have old:∀b o,s2.heap.get? b=some o->LC.get? b=some o:=fun b o e=>hsb₁.extBut b o (below b (bB e)).1 (aM _ (Yh▸aM _ e));have Yj:LC.get? s2.heap.objs.size=some (xj []):=hsb₁.extBut _ _ Yi (aM _ (Yh▸bV _ Z));have E4:∀b∈fp,b<s2.heap.objs.size:=fun b hb=>let ⟨o,e,_⟩:=T.obj _ _ MF b hb;bB e;have Yk:∀x c,cl.lookup x=some c->c<s2.heap.objs.size:=fun x c e=>let ⟨v,q⟩:=I2.cell x c (sZ x c e);q.lt;have R9:∀b∈ye X.stack,b<s2.heap.objs.size:=fun b hb=>by
    obtain⟨_,o,ho,_⟩:=I2.stack.mem hb;exact bB ho
  generalize hX:mB X scope cl (n9.map (·.1)++pX) HH.objs.size s2 H2 fp=X';have ok':X'.Ok:=by
    subst hX;refine { mod:=I2.ok.mod,kind:=q9,glob:=I2.ok.glob,blt:=I2.ok.blt,above:=?_,inj:=fun x y c a b=>I2.ok.inj x y c (sZ x c a) (sZ y c b),has:=?_,cab:=fun x c h=>(nomatch h),hd:=I2.ok.hd,frames:=I2.ok.frames,stk:=.inl Z,exf:=?_,bs:=I2.bs,bsz:=bQ I2.ok.bsz I2.sz,noex:=?_,exfs:=?_,t8:=I2.stack,frf:=I2.Ac }
    · show s2.heap.objs.size<=HH.objs.size
      rw[hC];exact gL _
    · intro x hx
      exact r8 (x,.free) (uA qZ hx) Z
    · intro b hb
      exact⟨(below b (E4 b hb)).1,fun x c e=>(f2 b hb).2.2.2.2.1 x c (sZ x c e)⟩
    · intro b o e hb
      rcases (f2 b hb).2.2.2.1 with z | z
      · exact I2.ok.noex b o e z
      · exact absurd (bj (bB (I2.ok.bs b o e).1) z) (dM _)
    · intro b hb hm
      rcases List.mem_cons.mp (I2.uU b hm) with z | z
      · exact(f2 b hb).2.1 z
      · exact(f2 b hb).2.2.1 z
  have Yl:Inv X' [(s2.heap.objs.size,xj [])] (qF n9 pX.length σ) H2 { s2 with heap:=LC,toks:=s2.toks+([]:List (Str×Value)).length }:=by
    subst hX;refine⟨ok',Z,I2.bare,Un.kept old,⟨_,DP,?_⟩,fun x c e=>?_,I2.hok.fresh (by rw[hC];exact gL _),fun x c e=>I2.freeC x c (sZ x c e),fun p hp=>?_,I2.hok.kept old,?_⟩
    · intro j y v e1 e2 e3
      have Po:(n9.map (·.1)++pX)[j]?=some y:=e1
      by_cases hj:j<n9.length
      · unfold qF at e2
        rw[dI (by simpa using hj),List.getElem?_map] at e2;rw[dI (by simpa using hj),List.getElem?_map] at Po;rw[az hj] at Po e2;have ey:n9[j].1=y:=by simpa using Po
        have ev:(σ[n9[j].2]?).join=some v:=by simpa using e2
        obtain⟨c1,c2,c3,c,c4⟩:=xX n9[j] (List.getElem_mem hj);have ev':σ[n9[j].2]?=some (some v):=by
          cases q:σ[n9[j].2]? with
          | none=>rw[q] at ev;cases ev
          | some z=>rw[q] at ev;exact cU some ev
        rw[ey] at c1 c2 c3 c4;obtain⟨m,hn,hl'⟩:=I2.loc;have vis:Tx X.env.scope y:=by
          rcases c2 with c2 | c2
          · exact .inr (.inl c2)
          · exact .inr (.inr c2)
        obtain⟨u,ru,lu⟩:=hl' _ y v c1 ev' vis;refine⟨u,ru,.inr ⟨c3,c,c4,?_⟩⟩;rcases lu with ⟨k,_⟩ | ⟨_,c',e',q⟩
        · rcases c2 with c2 | c2<;>(rw[k] at c2;cases c2)
        · rw[sZ y c c4] at e'
          cases e';obtain⟨o,ho,hd⟩:=q;exact⟨o,old _ _ ho,hd⟩
      · unfold qF at e2
        rw[dD (by simpa using hj),List.getElem?_replicate] at e2;split at e2<;>cases e2
    · obtain⟨v,o,ho,hd⟩:=I2.cell x c (sZ x c e)
      exact⟨v,o,old _ _ ho,hd⟩
    · have Ym:p∈([(s2.heap.objs.size,xj [])]:List (Addr×Obj)):=hp
      obtain rfl:=List.mem_singleton.mp Ym;refine⟨Yj,I2.hok.fresh (aH _),Yi,fun z=>dM _ (R9 _ z),fun v z=>?_⟩;have z':Data.seq _ _=Data.cell v:=z;cases z'
    · show (qF n9 pX.length σ).length=(n9.map (·.1)++pX).length
      unfold qF;simp
  have Yn:∀{us:List Value}{H':Hp},(∀b∈fp,H' b=none)->∀b∈fp,zJ X' [(s2.heap.objs.size,xj us)] H' b:=by
    subst hX;intro us H' hn b hb;refine⟨hn b hb,(below b (E4 b hb)).1,fun z=>ok'.exfs b hb z,.inl hb,fun x c e=>(f2 b hb).2.2.2.2.1 x c (sZ x c e),fun p hp=>?_⟩;have Ym:p∈([(s2.heap.objs.size,xj us)]:List (Addr×Obj)):=hp;obtain rfl:=List.mem_singleton.mp Ym;exact cM (below b (E4 b hb)).2
  have eP:X'.prog=X.prog:=by subst hX;rfl
  have eW:X'.w=X.w:=by subst hX;rfl
  have eK:X'.K=X.K:=by subst hX;rfl
  have eA:X'.A=X.A:=by subst hX;rfl
  have eE:X'.env=compEnvC scope cl HH.objs.size X.env:=by subst hX;rfl
  have eF:X'.fs=ye X.stack:=by subst hX;rfl
  have eX:X'.ex=fp:=by subst hX;rfl
  have eH:X'.H₀=H2:=by subst hX;rfl
  have eS:X'.s₀=s2:=by subst hX;rfl
  have ec:X'.calm=true:=by subst hX;exact hc
  have Sa:X'.pn=[]:=by subst hX;rfl
  have Yo:X'.xe=fun _ _=>eC:=by subst hX;rfl
  obtain⟨hg,ht,he⟩:PG X' tg g/\Mw X' ifs tc/\PE X' elt te:=by subst hX;exact hb _ _ _ _
  have loop:codeAny (model X.prog X.w) X.A (.compLoop (.ListComp elt [⟨tg,iter,ifs,0⟩] scope pos) 0 (.ref it) (.ref s2.heap.objs.size) (compEnvC scope cl HH.objs.size X.env))
      (compPost (model X.prog X.w) X.A X.xe use Qp (.ref s2.heap.objs.size) HH.objs.size) { s2 with heap:=LC,toks:=s2.toks+([]:List (Str×Value)).length }:=by
    refine z7 (fun n s'=>∃i ys us H',Inv X' [(s2.heap.objs.size,xj us)] (qF n9 pX.length σ) H' s'/\Vals ys us/\ys.length<=sizeLine/\tn i s'.heap/\(∀b∈fp,H' b=none)/\W i n ys H') ?_ m0
      ⟨0,[],[],H2,Yl,.nil,cX _,T.keep _ _ _ MF fun b _ o e=>old b o e,fun b hb=>(f2 b hb).1,w0⟩
    rintro n s3 ⟨i,ys,us,H3,I3,rv,hz,RV,RW,w3⟩;rcases turn i n ys H3 w3 with ⟨stop,qn⟩ | ⟨go,ì,N,hN,step⟩
    · have d:=T.done X' eP eW eK ec i _ s3 _ H3 (fun _ _=>eC) I3 (Yn RW) RV stop
      rw[eA] at d;refine nK d fun r s4 ⟨hr,I4⟩=>?_;subst hr;obtain⟨m,hn,_⟩:=id I4.loc;rw[eE] at hn;have pD:=I4.pin (s2.heap.objs.size,xj us) (by rw[Sa];simp);have fC:H3 HH.objs.size=none:=by have:=I4.free;rw[eE] at this;exact this
      have un:=I4.base;rw[eF,eX,eH,eS] at un;have nD:∀b o,s2.heap.get? b=some o->b≠s2.heap.objs.size:=fun b o e=>(below b (bB e)).2;have Yp:H2 s2.heap.objs.size=none:=I2.hok.fresh (aH _);have leC:s2.heap.objs.size<=HH.objs.size:=by rw[hC];exact gL _
      refine fin s2.heap.objs.size HH.objs.size (upd H3 s2.heap.objs.size (.lst ys)) s4 (I2.Mv (ch:=fp) ?_ ?_ ?_ I4.bare ?_)
        ⟨by rw[kO (cM Yi)];exact fC,cM (below _ I2.lt).1,bQ I2.sz leC,fun x c e=>?_,fun p hp=>(below _ (bB (I2.pin p hp).1)).1,⟨m,hn⟩⟩ (qn _ pD.2.1)
      · have:=I4.os;rw[eS] at this;exact this
      · refine⟨un.keep,un.slot,fun b o e n hx=>?_,un.there,fun b xs q=>?_,fun b o u q=>?_,fun b ps q=>?_⟩
        · rw[kO (nD b o e)];exact un.free b o e n hx
        · rw[kO (kP q Yp)];exact un.tups b xs q
        · rw[kO (kP q Yp)];exact un.frzs b o u q
        · rw[kO (kP q Yp)];exact un.tbls b ps q
      · have hok:=I4.hok
        rw[eP,eW] at hok;intro b u e
        by_cases hb:b=s2.heap.objs.size
        · subst hb
          rw[ko] at e;cases e;exact⟨hz,us,us.length,rv,pD.1⟩
        · rw[kO hb] at e
          exact(hok b u e).yB (fun c v RU q=>q) (fun c q=>by rw[kO (kP q pD.2.1)];exact q) fun c xs q=>by rw[kO (kP q pD.2.1)];exact q
      · exact fun b hb=>⟨(f2 b hb).2.2.2.1,(f2 b hb).2.1,(f2 b hb).2.2.2.2.1,(f2 b hb).2.2.2.2.2⟩
      · obtain⟨v,q⟩:=I2.cell x c e
        exact(below c q.lt).1
    · have d:=T.item X' eP eW eK ec i _ s3 _ H3 (fun _ _=>eC) I3 (Yn RW) RV go
      rw[eA] at d;refine nK d fun r s4 ⟨u,hr,h4⟩=>?_;subst hr;refine nK h4 fun _ s5 ⟨x,H5,I5,r5,y5,LA,X0⟩=>?_;have X1:=I5.pinned (Yn X0) (T.obj _ _ LA);have a6:=hg _ s5 _ H5 x u _ X1 r5 (hl x _ H5 _ (step x H5 y5));rw[eP,eW,eA,eE,Yo] at a6;refine nK a6 fun _ s6 ⟨Pm,H6,I6,⟨kl,kj⟩,q6⟩=>?_;have a7:=ht _ s6 Pm H6 _ I6 q6;rw[eP,eW,eA,eE,Yo] at a7;refine nK a7 fun ok s7 ⟨H7,I7,q7⟩=>?_;have wk:∀{pl:List (Addr×Obj)}{H':Hp}{s':Shared},Inv X' pl Pm H' s'->Inv X' [] (qF n9 pX.length σ) H' s':=fun {pl H' s'} I' =>
        (I'.weak kl.symm fun j v e=>by
          by_cases hj:j<n9.length
          · rw[kj j hj];exact e
          · unfold qF at e
            rw[dD (by simpa using hj),List.getElem?_replicate] at e;split at e<;>cases e).rp fun p hp=>(nomatch hp)
      have E5:∀{H':Hp}{s':Shared},Inv X' ([(s2.heap.objs.size,xj us)]++xA fp s5.heap) Pm H' s'->(∀b∈fp,∀o,s5.heap.get? b=some o->s'.heap.get? b=some o/\H' b=none):=fun {H' s'} I' b hb o e=>by
        have z:=I'.pin (b,o) (by rw[Sa];exact aZ _ (aZ _ (tW hb e)));exact⟨z.1,z.2.1⟩
      cases ok with
      | false =>
        have q7':N ys H7:=q7;obtain⟨m',hm,w7⟩:=hN _ _ q7';have pD:=I7.pin (s2.heap.objs.size,xj us) (by rw[Sa];simp);refine⟨m',hm,i+1,ys,us,H7,?_,rv,hz,T.keep _ _ _ LA fun b hb o e=>(E5 I7 b hb o e).1,fun b hb=>?_,w7⟩
        · exact(wk I7).rp fun p hp=>by
            cases List.mem_singleton.mp hp;exact pD
        · obtain⟨o,e,_⟩:=T.obj _ _ LA b hb
          exact(E5 I7 b hb o e).2
      | true =>
        have a8:=he _ s7 Pm H7 _ I7 q7;rw[eP,eW,eA,eE,Yo] at a8;refine nK a8 fun uy s8 ⟨y,H8,I8,ry,q8⟩=>?_;obtain⟨m',hm,w8⟩:=hN _ _ q8;have pD:=I8.pin (s2.heap.objs.size,xj us) (by rw[Sa];simp);refine append_at (hsz:=by show us.toArray.size<=sizeLine;rw[cB,<-rv.length];exact hz) pD.1 fun h9 hs9 hD9=>?_;have fpD:∀b∈fp,b≠s2.heap.objs.size:=fun b hb=>(below b (E4 b hb)).2;have I9:Inv X' [] (qF n9 pX.length σ) H8 { s8 with heap:=h9 }:=(wk I8).turned (t':=s8.toks) (it:=s2.heap.objs.size) (fun b o hb e=>(hs9.2 b hb).trans e) pD.2.1 pD.2.2.1 (.inr (by rw[eS];exact aH _))
          (fun x c e z=>by
            rw[eE] at e;exact absurd (Yk x c e) (by rw[z];exact dM _)) (fun p hp=>by rw[Sa] at hp;exact(nomatch hp))
        refine⟨m',hm,i+1,ys++[y],us++[uy],H8,?_,rv.append (.cons ry .nil),by rw[aI,dJ];exact ì,T.keep _ _ _ LA fun b hb o e=>(hs9.2 b (fpD b hb)).trans (E5 I8 b hb o e).1,fun b hb=>?_,w8⟩
        · refine I9.rp fun p hp=>?_
          cases List.mem_singleton.mp hp;refine⟨?_,pD.2.1,pD.2.2.1,pD.2.2.2.1,fun v z=>?_⟩
          · show h9.get? _=some (xj (us++[uy]))
            rw[hD9];show some ({ cls:=.type "list",data:=.seq (us.toArray.push uy) (us.length+1) }:Obj)=some { cls:=.type "list",data:=.seq (us++[uy]).toArray (us++[uy]).length }
            rw[List.push_toArray,aI,dJ]
          · have z':Data.seq _ _=Data.cell v:=z
            cases z'
        · obtain⟨o,e,_⟩:=T.obj _ _ LA b hb
          exact(E5 I8 b hb o e).2
  exact codeAny_compStart_list loop (T.self _ 0 _ _ _ (T.keep _ _ _ MF fun b _ o e=>old b o e) loop)
theorem A8 {X:Cx}{elt iter tg:Expr}{scope:Scope}{pos:Pos}{wi:TI}
 (hc:X.calm=true)(uN:closureFor scope X.env=pure cl)(q9:scope.kind=.function)
 (rK:∀x∈scope.names,x.2=.local->scope.names.lookup x.1=some .local)(qZ:∀y∈scope.names,y.2≠.cell)
 (r8:∀y∈scope.names,y.2=.free->∃c,cl.lookup y.1=some c)
 (sZ:∀x c,cl.lookup x=some c->X.env.cells.lookup x=some c)
 (xX:∀p∈n9,X.N[p.2]?=some p.1/\(X.env.kindOf p.1=some .cell\/X.env.kindOf p.1=some .free)/\((relabel scope X.env).names.lookup p.1=some .cell\/(relabel scope X.env).names.lookup p.1=some .free)/\∃c,cl.lookup p.1=some c)
 (hl:sI n9.length g)(hi:PI X tg iter wi)
 (hb:∀C s H fp,PG (mB X scope cl (n9.map (·.1)++pX) C s H fp) tg g/\Mw (mB X scope cl (n9.map (·.1)++pX) C s H fp) ifs tc/\PE (mB X scope cl (n9.map (·.1)++pX) C s H fp) elt te)
 (hs:∀x,foldedSetIterable iter X.env x=pure x:=by intro _;rfl) :
    PE X (.ListComp elt [⟨tg,iter,ifs,0⟩] scope pos) (Bh n9 pX.length wi g tc te):=by
  intro ä s σ H Q I h;rw[eval_ListComp];refine za hc uN q9 rK qZ r8 sZ xX hl hi hb hs I h fun D C H' s' I' f q=>?_;obtain⟨m,hn⟩:=f.ns;exact⟨m,hn,fun h' sb=>⟨.ref D,H',f.go I' sb,Z,q⟩⟩
theorem CV {X:Cx}{elt iter tg:Expr}{scope:Scope}{pos py Jx:Pos}{y:Str}{i:Nat}{wi:TI}
 (hN:X.N.Nodup)(Yq:X.N[i]?=some y)(hy:Loc X.env.scope y)
 (hc:X.calm=true)(uN:closureFor scope X.env=pure cl)(q9:scope.kind=.function)
 (rK:∀x∈scope.names,x.2=.local->scope.names.lookup x.1=some .local)(qZ:∀y∈scope.names,y.2≠.cell)
 (r8:∀y∈scope.names,y.2=.free->∃c,cl.lookup y.1=some c)
 (sZ:∀x c,cl.lookup x=some c->X.env.cells.lookup x=some c)
 (xX:∀p∈n9,X.N[p.2]?=some p.1/\(X.env.kindOf p.1=some .cell\/X.env.kindOf p.1=some .free)/\((relabel scope X.env).names.lookup p.1=some .cell\/(relabel scope X.env).names.lookup p.1=some .free)/\∃c,cl.lookup p.1=some c)
 (hl:sI n9.length g)(hi:PI X tg iter wi)
 (hb:∀C s H fp,PG (mB X scope cl (n9.map (·.1)++pX) C s H fp) tg g/\Mw (mB X scope cl (n9.map (·.1)++pX) C s H fp) ifs tc/\PE (mB X scope cl (n9.map (·.1)++pX) C s H fp) elt te)
 (hs:∀x,foldedSetIterable iter X.env x=pure x:=by intro _;rfl)
 (Yr:swapsWith (.ListComp elt [⟨tg,iter,ifs,0⟩] scope pos) (some (.Name y py)) Jx.line X.env=pure true:=by rfl)
 (hf:X.fn y=true\/X.env.scope.names.lookup y=some .local:=by first | exact .inl Z | exact .inr Z | assumption) :
    PS X (.Assign [.Name y py] (.ListComp elt [⟨tg,iter,ifs,0⟩] scope pos) Jx) (Iy (Bh n9 pX.length wi g tc te) (mM i)):=by
  intro ä s σ H D I h;rw[exec_Assign_Name_used _ _ _ _ Yr];refine aO (jw (aO ?_));show wpAny _ X.A (do let _ <-comprehension (.ListComp elt [⟨tg,iter,ifs,0⟩] scope pos) scope X.env _ (newList []) false (eval iter X.env) (some (assign (.Name y py) X.env))) _ _ s
  refine aO (c9 (za (use:=some (assign (.Name y py) X.env)) (Qp:=fun _ s'=>SP X ä D .next s') hc uN q9 rK qZ r8 sZ xX hl hi hb hs I h fun D' C H' s' I' f q=>?_) (fun _ s' hq=>bX (bX hq)) fun _ _ e=>e);show wpAny _ X.A (assign (.Name y py) X.env (.ref D')) _ _ _
  refine wpAny_assign_Name (yY I' hN Yq hy (v:=.ref D') Z (fun s'' I'' ⟨a,sa,ha⟩=>?_) hf);obtain⟨m,hn⟩:=f.ns;have hCa:C≠a:=by
    rcases ha with z | z
    · rw[z];exact f.loc
    · exact cM (f.cel _ _ z)
  have f'':Fin X ä H' s'' C:=⟨f.none,f.loc,f.sz,f.cel,f.pin,⟨m,hn.sameBut sa hCa⟩⟩;exact⟨m,hn.sameBut sa hCa,fun h' sb=>⟨_,H',f''.go I'' sb,q⟩⟩
theorem pV {K:zdg}{a:Addr}{xs:List V}{mw:St}{H:Hp}{Q:VK}(Pv:Nat->List V->Hp->Prop)(h0:Pv 0 [] H)(hl:∀i ys H,i<=xs.length->Pv i ys H->kR K H a xs)(hz:∀i ys H,i<xs.length->Pv i ys H->ys.length<sizeLine)
 (hs:∀i x ys H,xs[i]?=some x->Pv i ys H->g x mw H fun n8 H2=>tc n8 H2 fun b H3=>if b=true then te n8 H3 fun y H4=>Pv (i+1) (ys++[y]) H4 else Pv (i+1) ys H3)(hd:∀ys H,Pv xs.length ys H->∀D,H D=none->Q (.ref D) (upd H D (.lst ys))) :
    oh (Lv K a) g tc te mw Q H:=by
  refine⟨fun i m ys H=>m=xs.length-i/\i<=xs.length/\Pv i ys H,⟨xs.length,ke,Nat.zero_le _,h0⟩,?_⟩;rintro i m ys H ⟨rfl,hi,p⟩;have q:=hl i ys H hi p
  by_cases qy:i<xs.length
  · refine .inr ⟨⟨xs,xs[i],q,by simp[qy]⟩,hz i ys H qy p,Pv (i+1),fun OG H' p'=>⟨xs.length-(i+1),kg,Z,qy,p'⟩,fun x H' y=>?_⟩
    obtain⟨e,y⟩:=y;subst e;exact hs i x ys _ (y xs q) p
  · have e:i=xs.length:=kg
    subst e;exact .inl ⟨⟨xs,q,aH _⟩,hd ys H p⟩
theorem xU {lo:Int}{n:Nat}{mw:St}{H:Hp}{Q:VK}(Pv:Nat->List V->Hp->Prop)(h0:Pv 0 [] H)(hz:∀i ys H,i<n->Pv i ys H->ys.length<sizeLine)
 (hs:∀i ys H,i<n->Pv i ys H->g (.int (lo+i)) mw H fun n8 H2=>tc n8 H2 fun b H3=>if b=true then te n8 H3 fun y H4=>Pv (i+1) (ys++[y]) H4 else Pv (i+1) ys H3)(hd:∀ys H,Pv n ys H->∀D,H D=none->Q (.ref D) (upd H D (.lst ys))) :
    oh (DF lo n) g tc te mw Q H:=by
  refine⟨fun i m ys H=>m=n-i/\i<=n/\Pv i ys H,⟨n,ke,Nat.zero_le _,h0⟩,?_⟩;rintro i m ys H ⟨rfl,hi,p⟩
  by_cases qy:i<n
  · refine .inr ⟨qy,hz i ys H qy p,Pv (i+1),fun OG H' p'=>⟨n-(i+1),kg,Z,qy,p'⟩,fun x H' y=>?_⟩
    obtain⟨e,y⟩:=y;subst e y;exact hs i ys _ qy p
  · have e:i=n:=kg
    subst e;exact .inl ⟨aH _,hd ys H p⟩
variable {a b:Int}
section
variable {X:Cx}
theorem lL:uT X (binaryOp .Mult) (rI IntMulOk fun i j=>.int (i*j)):=RB fun _ _ _ _ _ _ _ hc q=>mul_int q hc
def Hi (i j:Int):Prop:=0<j/\j.natAbs.log2<9000
theorem lE:uT X (binaryOp .FloorDiv) (rI Hi fun i j=>.int (i/j)):=RB fun i j _ _ _ _ _ hc q=>by
 have e:i/j=i.fdiv j:=(eI i (io hc.1)).symm;rw[e] at q;exact floordiv_int (Int.ne_of_gt hc.1) q (.inl (PyProof.noPylong_of_log2 hc.2))
theorem nU:qh X (.builtin "isinstance") (fun xs H Q=>∃x T t b,xs=[x,.ty T]/\vo X.K H x t/\PySem.W.kitOne X.K t (.type T)=some b/\Q (.bl b) H):=by
 intro ä s σ H xs us Q I r h;obtain⟨x,T,t,b,rfl,ty,e,q⟩:=h;obtain⟨u,w',rfl,rx,AN⟩:=vals2 r;have ew:w'=Value.type T:=AN;subst ew;exact Gd I rx ty e fun tk=>⟨.bl b,H,I.tok tk,Z,q⟩
end
theorem ma:bootBuiltins "isinstance"=some (.builtin "isinstance"):=by decide +kernel
theorem t6:bootBuiltins "abs"=some (.builtin "abs"):=by decide +kernel
theorem Iu:bootBuiltins "len"=some (.builtin "len"):=by decide +kernel
theorem GA:bootBuiltins "sum"=some (.builtin "sum"):=by decide +kernel
theorem He:bootBuiltins "int"=some (.type "int"):=by decide +kernel
theorem K9:bootBuiltins "bool"=some (.type "bool"):=by decide +kernel
theorem oY:bootBuiltins "list"=some (.type "list"):=by decide +kernel
theorem xH:bootBuiltins "tuple"=some (.type "tuple"):=by decide +kernel
def VV (t u:TS):TS:=fun D σ H=>∃M:St->Hp->Prop,t { D with nx:=M } σ H/\∀mw H',M mw H'->u D mw H'
theorem ui {X:Cx}{st:Stmt}{rest:List Stmt}{t u:TS}(h1:PS X st t)(h2:yu X rest u):yu X (st::rest) (VV t u):=by
 intro ä s σ H D I h;obtain⟨M,ht,hu⟩:=h;refine hI (nK (h1 ä s σ H { D with nx:=M } I ht) fun f s1 q=>?_);cases f with
 | next =>
  obtain⟨mw,H',I',q⟩:=q;exact h2 ä s1 mw H' D I' (hu mw H' q)
 | ret v=>exact q
 | brk=>exact q
 | cont=>exact q
structure Df (P:Program)(w:World)(K:zdg)(mg:Str->Option Value)(base:Heap)(k:Nat)(x:Str)(ps:List Str)(sp:Sp):Prop where
 ex:∃(f:Addr)(fd:FuncData),pK P w K mg base Dl k f fd ps sp/\Binds K fd ps []/\PySem.W.keepIn K (.ref f)=true/\mg x=some (.ref f)
theorem Df.mono {P:Program}{w:World}{K:zdg}{mg:Str->Option Value}{base:Heap}{j k:Nat}{x:Str}{ps:List Str}{sp:Sp}(D:Df P w K mg base j x ps sp)(h:j<=k):Df P w K mg base k x ps sp :=
 let ⟨f,fd,F,r⟩:=D.ex;⟨f,fd,F.mono h,r⟩
section
variable {X:Cx}{k:Nat}{x:Str}{ps:List Str}{sp:Sp}{e:Expr}{es:List Expr}{t:TA}{p pos:Pos}
theorem On (D:Df X.prog X.w X.K X.mg X.base k x ps sp)(hr:nZ k X.A)(hg:Gl X x)(ha:PA X (e::es) t)(yE:(x == ("__debug__":Str))=false:=by decide)
  (he:starEach (e::es) X.env=(false,eval e X.env)::starEach es X.env:=by rfl)(sY:(backTo pos (starEach es X.env)).any (·.1)=false:=by rfl) :
  PE X (.Call (.Name x p) (e::es) [] pos) (A5 sp [] E0 t):=by
 obtain⟨f,fd,F,hb,hk,hm⟩:=D.ex;exact D0 F hr hg hm hk hb .nil Ht ha yE he sY
end
structure Dn (K:zdg)(mg:Str->Option Value)(x:Str)(st:Stmt)(ps:List Str):Prop where
 ex:∃(f:Addr)(fd:FuncData),Ez K x x st f fd/\Binds K fd ps []/\mg x=some (.ref f)
theorem Dn.ok {P:Program}{w:World}{K:zdg}{mg:Str->Option Value}{base:Heap}{x:Str}{st:Stmt}{N ps:List Str}{k:Nat}{sp:Sp}(D:Dn K mg x st ps)(S:kL N ps (kG st))(len:∀vs H Q E,sp vs H Q E->vs.length=ps.length)
  (hbody:∀(f:Addr)(cdv:Value)(A:Around)(outer:List Env)(s:Shared)(H:Hp)(vs:List V)(Q:VK)(E:XK),nZ k (A.deeper (envOfC x (kG st) s.heap.objs.size f cdv))->sp vs H Q E ->
   ∃t,yu (qX Dl P w K mg base N x (kG st) f cdv A outer s H E).Fc (mH st) t/\t { nx:=fun _ H'=>Q .non H',rt:=Q } (start N vs) H):Df P w K mg base (k+1) x ps sp:=by
 obtain⟨f,fd,F,b,m⟩:=D.ex;exact⟨f,fd,F.ok S len (fun cdv A outer s H vs Q E hr h=>hbody f cdv A outer s H vs Q E hr h),b,F.kp,m⟩
theorem qR {K:zdg}(T:String):PySem.W.kitOne K (.type T) (.type T)=some true:=aB ke
theorem Oa {K:zdg}:PySem.W.kitOne K (.type "int") (.type "bool")=some false:=by
 first
 | rfl
 | decide +kernel
 | (show (if (Value.type "int" == Value.type "bool")=true then some true else _)=_;rw[ak O];rfl)
 | (show (if (Value.type "int" == Value.type "bool")=true then some true else _)=_;rw[ak O];kernel_rfl)
theorem vm (h:decide (zaa a=zaa b)=true):a=b:=by
 have:=fk h;injection this
theorem vC (h:¬decide (zaa a=zaa b)=true):¬a=b:=fun e=>h (by rw[e];simp)
theorem Mr (h:(!decide (zaa a=zaa b))=true):¬a=b:=fun e=>by rw[e] at h;simp at h
theorem FA (h:¬(!decide (zaa a=zaa b))=true):a=b:=by
 by_cases e:a=b
 .exact e
 .exact absurd (by simp[e]) h
theorem dec {p:Prop} [Decidable p] (h:decide p=true):p:=fk h
theorem uR {p:Prop} [Decidable p] (h:¬decide p=true):¬p:=fun e=>h (b5 e)
theorem lI {H H':Hp}{r:Addr}{o:HO}(h:kD H H')(n:H r=none):kD H (upd H' r o):=fun b u q=>by rw[kO (kP q n)];exact h b u q
theorem ku {H H':Hp}{r:Addr}{o:HO}(h:kD H H')(n:H' r=none):kD H (upd H' r o):=lI h (h.free n)
theorem nQ {n:Nat}(h:n<=20000):n<sizeLine:=cf h O
theorem n5 {n:Nat}(h:n<=20000):n<=sizeLine:=eJ (nQ h)
theorem mj {α β:Type}{F:α->β->Prop}:∀{Jr:List α}{Js:List β}{i:Nat}{a:α},Paired F Jr Js->Jr[i]?=some a->∃b,Js[i]?=some b/\F a b
 | _,_,0,_,.cons h _,e=>by cases e;exact⟨_,Z,h⟩
 | _,_,i+1,_,.cons _ t,e=>mj (i:=i) t (by rw[dS] at e;exact e)
theorem int_at {ms:List Int}{i:Nat}{x:V}(h:(ms.map zaa)[i]?=some x):∃v,x=.int v/\ms[i]?=some v:=by
 rw[af] at h;cases e:ms[i]? with
 | none=>rw[e] at h;cases h
 | some v=>rw[e] at h;cases h;exact⟨v,Z,Z⟩
theorem NS {ns:List Int}{k:Int}(h0:0<=k)(h:k<(ns.length:Int)):∃v:Int,m9 (ns.map zaa) k=some (.int v)/\ns[k.toNat]?=some v:=by
 have hk:k.toNat<ns.length:=kg;have ek:k=((k.toNat:Nat):Int):=kg;have q:m9 (ns.map zaa) ((k.toNat:Nat):Int)=some (.int ns[k.toNat]):=m8 (by rw[af,az hk]<;>rfl);rw[<-ek] at q;exact⟨ns[k.toNat],q,az hk⟩
theorem bits_le {m:Nat}(h:a.natAbs<2^m):Builtin.Int.intBits a<=m:=by
 unfold Builtin.Int.intBits;split
 .exact cX _
 .rename_i hz;have h0:a.natAbs≠0:=by
   intro z;apply hz;simpa using z
  have:=(iC h0).mpr h;omega
theorem si {m n:Nat}(ha:a.natAbs<2^m)(hb:b.natAbs<2^n)(h:m+n<=134217728):IntMulOk a b:=IntMulOk.of_le (bits_le ha) (bits_le hb) h
theorem oV (h1:-1000000000<=a)(h2:a<=1000000000):IntMulOk a b:=IntMulOk.of_left (gF kg kg)
theorem lR {i j:Int}(h0:0<j)(h:j<=1000000000):Hi i j:=by
 refine⟨h0,?_⟩;have hn:j.natAbs<2^30:=kg;have:=(iC (show j.natAbs≠0 by omega)).mpr hn;omega
variable {K:zdg}{xs:List V}
section
variable {X:Cx}{ä:List (Addr×Obj)}{σ:St}{H:Hp}{s:Shared}{h':Heap}
theorem Inv.EN {t':Nat}{â:List Addr}(I:Inv X ä σ H s)(k:∀b o,b∉â->s.heap.get? b=some o->h'.get? b=some o)(hf:∀b∈â,zJ X ä H b):Inv X ä σ H { s with heap:=h',toks:=t' }:=by
 have RR:∀b u,H b=some u->b∉â:=fun b u e z=>by rw[(hf b z).1] at e;cases e
 refine I.step (g':=s.gens) (d':=s.drawn) (ch:=â) (fun b hb=>?_) (fun b o _ _ hc e _=>k b o hc e) (fun b o _ _ hc e _=>⟨o.slots,k b o hc e⟩) (fun _ _ _ _ n=>n)
  (fun b o hc e=>⟨o,k b o hc e⟩) (fun _ _ e=>e) (fun _ _ _ e=>e) (fun b ps e=>⟨#[],by rw[e];simp⟩) (fun m hm=>?_) (fun b u e=>?_) I.bare
 .obtain⟨_,f1,_,f3,f4,f5⟩:=hf b hb;exact⟨f3,f1,f4,f5⟩
 .obtain⟨o,es,ep,ho,r⟩:=hm;exact⟨o,es,ep,k _ o (fun z=>(hf _ z).2.1 Z) ho,r⟩
 .refine(I.hok b u e).yB (fun c v hc q=>k c v ?_ q) (fun _ q=>q) fun _ _ q=>q;rcases hc with z | z
  .rw[z];exact RR b u e
  .exact RR c _ z
theorem Inv.EE {t':Nat}{â:List Addr}{xs:List V}{us:List Value}(I:Inv X ä σ H s)(k:∀b o,b∉â->s.heap.get? b=some o->h'.get? b=some o)(hf:∀b∈â,zJ X ä H b)(qy:∀b∈â,b<s.heap.objs.size)
  (ht:h'.get? s.heap.objs.size=some { cls:=.type "tuple",data:=.seq us.toArray })(hz:xs.length<=sizeLine)(r:Vals xs us) :
  Inv X ä σ (upd H s.heap.objs.size (.tup xs)) { s with heap:=h',toks:=t' }/\∀b∈â,upd H s.heap.objs.size (.tup xs) b=none:=by
 have nf:∀b∈â,upd H s.heap.objs.size (.tup xs) b=none:=fun b hb=>by rw[kO (cy (qy b hb))];exact(hf b hb).1
 refine⟨?_,nf⟩;have I1:Inv X ä σ (upd H s.heap.objs.size (.tup xs)) { s with heap:=s.heap.push { cls:=.type "tuple",data:=.seq us.toArray },toks:=s.toks } :=
  I.laid (t':=s.toks) (fun b u e=>aM _ e) (aH _) ⟨hz,us,r,⟨_,bV _ Z,Z,_,Z⟩⟩
 have I2:=I1.EN (h':=h') (t':=t') (â:=â) (fun b o hb e=>?_) (fun b hb=>⟨nf b hb,(hf b hb).2⟩)
 .exact I2
 .have e':(s.heap.push { cls:=.type "tuple",data:=.seq us.toArray }).get? b=some o:=e;have Pp:b<s.heap.objs.size+1:=by have:=bB e';rw[ii] at this;exact this
  rcases Nat.lt_or_ge b s.heap.objs.size with z | z
  .cases q:s.heap.get? b with
   | none =>
    exact absurd e' (by
     intro e'';have:(s.heap.push { cls:=.type "tuple",data:=.seq us.toArray }).get? b=s.heap.get? b:=by
      first | exact Heap.get?_push_lt _ z | exact Heap.get?_push_of_lt _ z | (simp[Heap.get?,Heap.push,Array.getElem?_push,Nat.ne_of_lt z])
     rw[this,q] at e'';cases e'')
   | some o' =>
    have:=aM { cls:=.type "tuple",data:=.seq us.toArray } q;rw[e'] at this;cases this;exact k b o hb q
  .have eb:b=s.heap.objs.size:=Nat.le_antisymm (Nat.le_of_lt_succ Pp) z;subst eb;rw[bV _ Z] at e';rw[ht];exact e'
end
def Nr (K:zdg)(a:Addr):It :=
 ⟨fun i H=>∃xs x,kR K H a xs/\xs[i]?=some x,fun i H v H'=>∃p x,v=.ref p/\H p=none/\(∀xs,kR K H a xs->xs[i]?=some x)/\H'=upd H p (.tup [.int i,x]),fun i H=>∃xs,kR K H a xs/\xs.length<=i⟩
theorem Fz {P:Program}{w:World}{elts:List Expr}{x1}{pos:Pos}(a e it:Addr)(hne:e≠it):Turn P w K (.Tuple elts x1 pos) (Nr K a) [e,it] e (fun i h=>∃old,IsEnum h e it ((i:Nat):Int) old/\h.IsListIter it a i) where
 mem:=by simp
 obj:=fun i h st b hb=>by
  obtain⟨old,he,o,e1,c,d⟩:=st;rcases List.mem_cons.mp hb with z | z
  .subst z;exact⟨_,he,fun v z=>by
    have z':Data.fields _=Data.cell v:=z;cases z'⟩
  .have z':b=it:=by simpa using z
   subst z';exact⟨o,e1,fun v z=>by rw[d] at z;cases z⟩
 keep:=fun i h h' st k=>by
  obtain⟨old,he,st⟩:=st;exact⟨old,k e ke _ he,st.at fun o e'=>k it ke o e'⟩
 item:=by
  intro X hP hw hK hc i ä s σ H E I hf st hg;subst hP hw hK;obtain⟨old,he,st⟩:=st;obtain⟨xs,x,hq,hx⟩:=hg;obtain⟨â,rv,p,hz⟩:=I.list hq;obtain⟨u,hu,ru⟩:=rv.get hx;have lte:e<s.heap.objs.size:=bB he;have lti:it<s.heap.objs.size:=by obtain⟨o,e1,_⟩:=st;exact Heap.lt_size e1
  refine wpAny_pyNext_enum_item he st p.isList (x:=u) (by simpa using hu) hne fun h1 eo st1 Jy hz1 hk1=>?_;refine⟨_,Z,wpAny_letOwnedTupleGo_enum eo fun h2 JQ hs2=>?_⟩
  replace hs2:Heap.SameBut e h1 h2:=hs2
  have nm:∀b,b∉[e,it]->b≠e/\b≠it:=fun b hb=>⟨fun z=>hb (by simp[z]),fun z=>hb (by simp[z])⟩;have IT:=I.EE (t':=s.toks+1) (h':=h2) (â:=[e,it]) (xs:=[.int ((i:Nat):Int),x]) (us:=[.int i s.toks,u]) (fun b o hb q=>hs2.extBut b o (nm b hb).1 (hk1 b o (nm b hb).1 (nm b hb).2 q)) hf
   (fun b hb=>by
    rcases List.mem_cons.mp hb with z | z
    .rw[z];exact lte
    .have z':b=it:=by simpa using z
     rw[z'];exact lti)
   (hs2.extBut _ _ (iW lte) Jy) kq (.cons ⟨_,Z⟩ (.cons ru .nil))
  refine⟨.ref s.heap.objs.size,_,IT.1,Z,⟨_,x,Z,I.hok.fresh (aH _),fun ys hy=>by rw[I.uG hy hq];exact hx,Z⟩,⟨u,?_,st1.extBut hs2.extBut (cM hne)⟩,IT.2⟩;have:((i+1:Nat):Int)=(i:Int)+1:=by push_cast;rfl
  rw[this];exact JQ
 done:=by
  intro X hP hw hK hc i ä s σ H E I hf st hg;subst hP hw hK;obtain⟨old,he,st⟩:=st;obtain⟨xs,hq,hx⟩:=hg;obtain⟨â,rv,p,hz⟩:=I.list hq;have hl:=rv.length;obtain⟨f0,f1,f2,f3,f4,f5⟩:=hf it ke;exact wpAny_pyNext_enum_end (I.ok.hd hc) he st p.isList (by simp;lia) fun h' eb=>⟨Z,I.turned (t':=s.toks) (fun b o hb e=>eb b o hb e) f0 f1 f3 f4 f5⟩
 self:=fun A i s Q E st h=>by
  obtain⟨old,he,st⟩:=st;exact wpAny_pyIter_enum he h
section
variable {X:Cx}
def Rn (K:zdg)(ta:TA):TI:=fun σ H R=>ta σ H fun vs H1=>∃a,vs=[.ref a]/\(∃xs,kR K H1 a xs)/\R (Nr K a) H1
theorem pR {elts:List Expr}{x1}{pos':Pos}{a:Expr}{ta:TA}{p pos:Pos}(hg:Gl X "enumerate")(hm:X.mg "enumerate"=none)(ha:PA X [a] ta)(hs:starEach [a] X.env=[(false,eval a X.env)]:=by rfl):PI X (.Tuple elts x1 pos') (.Call (.Name "enumerate" p) [a] [] pos) (Rn X.K ta):=by
 intro ä s σ H R I h;refine Call_ (qG I hg hm boot_enumerate (cF (nK (ha pos ä s σ H _ I h) fun us s1 ⟨vs,H1,I1,r1,q1⟩=>?_) hs Z));obtain⟨a,e,⟨xs,hq⟩,q⟩:=q1;subst e;cases r1 with
 | cons r rr =>
  cases rr;cases r;obtain⟨â,rv,p,hz⟩:=I1.list hq;refine call_enumerate_list p.isList fun h' he hit hz hk=>?_;have I2:Inv X ä σ H1 { s1 with heap:=h' }:=I1.kept (t':=s1.toks) hk;refine wpAny_pyIter_enum he ?_;refine⟨_,[s1.heap.objs.size+1,s1.heap.objs.size],_,_,H1,Z,I2,Fz a _ _ (Nat.succ_ne_self _),⟨.none,he,hit⟩,fun b hb=>?_,q⟩;rcases List.mem_cons.mp hb with z | z
  .subst z;exact I1.Cq (gL _) (I1.hok.fresh (gL _))
  .have z':b=s1.heap.objs.size:=by simpa using z
   subst z';exact I1.Cq (aH _) (I1.hok.fresh (aH _))
end
def L8 (K:zdg)(a b:Addr):It :=
  ⟨fun i H=>∃xs ys x y,kR K H a xs/\kR K H b ys/\xs[i]?=some x/\ys[i]?=some y,fun i H v H'=>∃p x y,v=.ref p/\H p=none/\(∀xs,kR K H a xs->xs[i]?=some x)/\(∀ys,kR K H b ys->ys[i]?=some y)/\H'=upd H p (.tup [x,y]),
   fun i H=>∃xs ys,kR K H a xs/\kR K H b ys/\(xs.length<=i\/ys.length<=i)⟩
theorem GR {P:Program}{w:World}{elts:List Expr}{x1}{pos:Pos}(a b z TI TO i1 i2:Addr)(D:ZipApart z TI TO i1 i2 a b):Turn P w K (.Tuple elts x1 pos) (L8 K a b) [z,TI,TO,i1,i2] z
  (fun i h=>IsZip h z TI TO .none/\IsPair h TI (.ref i1) (.ref i2)/\(∃u v,IsPair h TO u v)/\h.IsListIter i1 a i/\h.IsListIter i2 b i) where
 mem:=by simp
 obj:=fun i h st c hc=>by
  obtain⟨hz,h1,⟨u,v,h2⟩,⟨o1,e1,c1,d1⟩,⟨o2,e2,c2,d2⟩⟩:=st;simp only[List.mem_cons,List.not_mem_nil,or_false] at hc;rcases hc with rfl | rfl | rfl | rfl | rfl
  .exact⟨_,hz,fun v q=>by
    have q':Data.fields _=Data.cell v:=q;cases q'⟩
  .exact⟨_,h1,fun v q=>by
    have q':Data.seq _ _=Data.cell v:=q;cases q'⟩
  .exact⟨_,h2,fun v q=>by
    have q':Data.seq _ _=Data.cell v:=q;cases q'⟩
  .exact⟨o1,e1,fun v q=>by rw[d1] at q;cases q⟩
  .exact⟨o2,e2,fun v q=>by rw[d2] at q;cases q⟩
 keep:=fun i h h' st k=>by
  obtain⟨hz,h1,⟨u,v,h2⟩,s1,s2⟩:=st;exact⟨k z ke _ hz,k TI ke _ h1,⟨u,v,k TO ke _ h2⟩,s1.at fun o e=>k i1 ke o e,s2.at fun o e=>k i2 ke o e⟩
 item:=by
  intro X hP hw hK hc i ä s σ H E I hf st hg;subst hP hw hK;obtain⟨hz,h1,⟨u0,v0,h2⟩,s1,s2⟩:=st;obtain⟨xs,ys,x,y,hq,Cj,hx,hy⟩:=hg;obtain⟨â,rv,p,hzl⟩:=I.list hq;obtain⟨its',TY,p',Ys⟩:=I.list Cj;obtain⟨u,hu,ru⟩:=rv.get hx;obtain⟨u',Yt,ru'⟩:=TY.get hy;have ltz:z<s.heap.objs.size:=bB hz;have lt1:TI<s.heap.objs.size:=bB h1;have lt2:TO<s.heap.objs.size:=bB h2;have lti:i1<s.heap.objs.size:=by obtain⟨o,e1,_⟩:=s1;exact Heap.lt_size e1
  have ltj:i2<s.heap.objs.size:=by obtain⟨o,e1,_⟩:=s2;exact Heap.lt_size e1
  refine wpAny_pyNext_zip_item D hz h1 h2 s1 s2 p.isList p'.isList (x:=u) (y:=u') (by simpa using hu) (by simpa using Yt) fun g1 a1 a2 a3 a4 a5 a6 hk=>?_;refine⟨_,Z,wpAny_letOwnedTupleGo_zip a1 fun g2 JQ hs2=>?_⟩
  replace hs2:Heap.SameBut z g1 g2:=hs2
  have nm:∀b,b∉[z,TI,TO,i1,i2]->b≠z/\b≠TO/\b≠i1/\b≠i2:=fun b hb=>⟨fun q=>hb (by simp[q]),fun q=>hb (by simp[q]),fun q=>hb (by simp[q]),fun q=>hb (by simp[q])⟩;have IT:=I.EE (t':=s.toks) (h':=g2) (â:=[z,TI,TO,i1,i2]) (xs:=[x,y]) (us:=[u,u']) (fun b o hb q=>hs2.extBut b o (nm b hb).1 (hk b o (nm b hb).1 (nm b hb).2.1 (nm b hb).2.2.1 (nm b hb).2.2.2 q)) hf
   (fun b hb=>by
    simp only[List.mem_cons,List.not_mem_nil,or_false] at hb;rcases hb with rfl | rfl | rfl | rfl | rfl<;>assumption)
   (hs2.extBut _ _ (iW ltz) a5) kq (.cons ru (.cons ru' .nil))
  exact⟨.ref s.heap.objs.size,_,IT.1,Z,⟨_,x,y,Z,I.hok.fresh (aH _),fun ys DQ=>by rw[I.uG DQ hq];exact hx,fun ys DQ=>by rw[I.uG DQ Cj];exact hy,Z⟩,
   ⟨JQ,hs2.extBut _ _ D.TIz (hk _ _ D.TIz D.TITO D.TIi1 D.TIi2 h1),⟨_,_,hs2.extBut _ _ D.TOz a2⟩,a3.extBut hs2.extBut D.i1z,a4.extBut hs2.extBut D.i2z⟩,IT.2⟩
 done:=by
  intro X hP hw hK hc i ä s σ H E I hf st hg;subst hP hw hK;obtain⟨hz,h1,⟨u0,v0,h2⟩,s1,s2⟩:=st;obtain⟨xs,ys,hq,Cj,hx⟩:=hg;obtain⟨â,rv,p,hzl⟩:=I.list hq;obtain⟨its',TY,p',Ys⟩:=I.list Cj;have hl:=rv.length;have hl':=TY.length;refine wpAny_pyNext_zip_end (I.ok.hd hc) D hz h1 h2 s1 s2 p.isList p'.isList (by rcases hx with q | q;exact .inl (by simp;lia);exact .inr (by simp;lia)) fun h' hk=>⟨rfl,I.EN (t':=s.toks) (â:=[z,TI,TO,i1,i2]) (fun b o hb e=>hk b o ?_ ?_ ?_ ?_ e) hf⟩
  .exact fun q=>hb (by simp[q])
  .exact fun q=>hb (by simp[q])
  .exact fun q=>hb (by simp[q])
  .exact fun q=>hb (by simp[q])
 self:=fun A i s Q E st h=>wpAny_pyIter_zip st.1 h
section
variable {X:Cx}
def We (K:zdg)(ta:TA):TI:=fun σ H R=>ta σ H fun vs H1=>∃a b,vs=[.ref a,.ref b]/\(∃xs,kR K H1 a xs)/\(∃ys,kR K H1 b ys)/\R (L8 K a b) H1
theorem pH {elts:List Expr}{x1}{pos':Pos}{a b:Expr}{ta:TA}{p pos:Pos}(hg:Gl X "zip")(hm:X.mg "zip"=none)(ha:PA X [a,b] ta)(hs:starEach [a,b] X.env=[(false,eval a X.env),(false,eval b X.env)]:=by rfl)(hs2:starEach [b] X.env=[(false,eval b X.env)]:=by rfl) :
  PI X (.Tuple elts x1 pos') (.Call (.Name "zip" p) [a,b] [] pos) (We X.K ta):=by
 intro ä s σ H R I h;refine Call_ (qG I hg hm boot_zip (cF (nK (ha pos ä s σ H _ I h) fun us s1 ⟨vs,H1,I1,r1,q1⟩=>?_) (by rw[hs,hs2]) (by rw[hs2];rfl)));obtain⟨a,b,e,⟨xs,hq⟩,⟨ys,Cj⟩,q⟩:=q1;subst e;cases r1 with
 | cons r rr =>
  cases rr with
  | cons r' rr =>
   cases rr;cases r;cases r';obtain⟨â,rv,p,hz⟩:=I1.list hq;obtain⟨its',TY,p',hz'⟩:=I1.list Cj;have la:a<s1.heap.objs.size:=by obtain⟨o,e1,_⟩:=p.isList;exact Heap.lt_size e1
   have lb:b<s1.heap.objs.size:=by obtain⟨o,e1,_⟩:=p'.isList;exact Heap.lt_size e1
   refine call_zip_2 p.isList p'.isList fun h' hz hTI hTO hi1 hi2 hsz hk=>?_;have I2:Inv X ä σ H1 { s1 with heap:=h' }:=I1.kept (t':=s1.toks) hk;refine wpAny_pyIter_zip hz ?_;refine⟨_,_,_,_,H1,Z,I2,GR a b _ _ _ _ _ (zipApart_new la lb),⟨hz,hTI,⟨_,_,hTO⟩,hi1,hi2⟩,fun c hc=>?_,q⟩;simp only[List.mem_cons,List.not_mem_nil,or_false] at hc;rcases hc with rfl | rfl | rfl | rfl | rfl<;>exact I1.Cq J (I1.hok.fresh J)
end
theorem p5 {a:Addr}{g:TG}{tb:TS}{D:Ends}{σ:St}{H:Hp}(Pv:Nat->St->Hp->Prop)(h0:Pv 0 σ H)(hl:∀i σ H,i<=xs.length->Pv i σ H->kR K H a xs)
 (hs:∀i x σ H p,xs[i]?=some x->Pv i σ H->H p=none->g (.ref p) σ (upd H p (.tup [.int i,x])) fun n8 H2=>tb { D with nx:=Pv (i+1),ct:=Pv (i+1),bk:=D.nx } n8 H2)(hd:∀σ H,Pv xs.length σ H->D.nx σ H) :
    ∃W:Nat->Nat->St->Hp->Prop,(∃m,W 0 m σ H)/\∀i m σ H,W i m σ H ->
      ((Nr K a).stop i H/\D.nx σ H)\/((Nr K a).go i H/\∃N:St->Hp->Prop,(∀mw H',N mw H'->∃m',m'<m/\W (i+1) m' mw H')/\∀x H',(Nr K a).yld i H x H'->g x σ H' fun n8 H2=>tb { D with nx:=N,ct:=N,bk:=D.nx } n8 H2):=by
  refine⟨fun i m σ H=>m=xs.length-i/\i<=xs.length/\Pv i σ H,⟨xs.length,ke,Nat.zero_le _,h0⟩,?_⟩;rintro i m σ H ⟨rfl,hi,p⟩;have q:=hl i σ H hi p
  by_cases qy:i<xs.length
  · refine .inr ⟨⟨xs,xs[i],q,by simp[qy]⟩,Pv (i+1),fun mw H' p'=>⟨xs.length-(i+1),J,Z,qy,p'⟩,fun x H' y=>?_⟩
    obtain⟨r,y,rfl,hr,hy,rfl⟩:=y;exact hs i y σ _ r (hy xs q) p hr
  · have e:i=xs.length:=J
    subst e;exact .inl ⟨⟨xs,q,aH _⟩,hd σ H p⟩
theorem y3 {a:Addr}{g:TG}{tc:TT}{te:TE}{mw:St}{H:Hp}{Q:VK}(Pv:Nat->List V->Hp->Prop)(h0:Pv 0 [] H)(hl:∀i ys H,i<=xs.length->Pv i ys H->kR K H a xs)(hz:∀i ys H,i<xs.length->Pv i ys H->ys.length<sizeLine)
 (hs:∀i x ys H p,xs[i]?=some x->Pv i ys H->H p=none->g (.ref p) mw (upd H p (.tup [.int i,x])) fun n8 H2=>tc n8 H2 fun b H3=>if b=true then te n8 H3 fun y H4=>Pv (i+1) (ys++[y]) H4 else Pv (i+1) ys H3)(hd:∀ys H,Pv xs.length ys H->∀D,H D=none->Q (.ref D) (upd H D (.lst ys))) :
    oh (Nr K a) g tc te mw Q H:=by
  refine⟨fun i m ys H=>m=xs.length-i/\i<=xs.length/\Pv i ys H,⟨xs.length,ke,Nat.zero_le _,h0⟩,?_⟩;rintro i m ys H ⟨rfl,hi,p⟩;have q:=hl i ys H hi p
  by_cases qy:i<xs.length
  · refine .inr ⟨⟨xs,xs[i],q,by simp[qy]⟩,hz i ys H qy p,Pv (i+1),fun OG H' p'=>⟨xs.length-(i+1),J,Z,qy,p'⟩,fun x H' y=>?_⟩
    obtain⟨r,y,rfl,hr,hy,rfl⟩:=y;exact hs i y ys _ r (hy xs q) p hr
  · have e:i=xs.length:=J
    subst e;exact .inl ⟨⟨xs,q,aH _⟩,hd ys H p⟩
theorem xQ {a b:Addr}{ys:List V}{g:TG}{tc:TT}{te:TE}{mw:St}{H:Hp}{Q:VK}(ì:xs.length=ys.length)(Pv:Nat->List V->Hp->Prop)(h0:Pv 0 [] H)(hl:∀i rs H,i<=xs.length->Pv i rs H->kR K H a xs/\kR K H b ys)(hz:∀i rs H,i<xs.length->Pv i rs H->rs.length<sizeLine)
 (hs:∀i x y rs H p,xs[i]?=some x->ys[i]?=some y->Pv i rs H->H p=none->g (.ref p) mw (upd H p (.tup [x,y])) fun n8 H2=>tc n8 H2 fun b H3=>if b=true then te n8 H3 fun y H4=>Pv (i+1) (rs++[y]) H4 else Pv (i+1) rs H3)(hd:∀rs H,Pv xs.length rs H->∀D,H D=none->Q (.ref D) (upd H D (.lst rs))) :
    oh (L8 K a b) g tc te mw Q H:=by
  refine⟨fun i m rs H=>m=xs.length-i/\i<=xs.length/\Pv i rs H,⟨xs.length,ke,Nat.zero_le _,h0⟩,?_⟩;rintro i m rs H ⟨rfl,hi,p⟩;have q:=hl i rs H hi p
  by_cases qy:i<xs.length
  · refine .inr ⟨⟨xs,ys,xs[i],ys[i],q.1,q.2,by simp[qy],ke⟩,hz i rs H qy p,Pv (i+1),fun OG H' p'=>⟨xs.length-(i+1),J,Z,qy,p'⟩,fun x H' y=>?_⟩
    obtain⟨r,x,y,rfl,hr,hx,hy,rfl⟩:=y;exact hs i x y rs _ r (hx xs q.1) (hy ys q.2) p hr
  · have e:i=xs.length:=J
    subst e;exact .inl ⟨⟨xs,ys,q.1,q.2,.inl (aH _)⟩,hd rs H p⟩
theorem vJ {n i j:Nat}(h:n<=i)(h':n<=j):sI n (Ll K 2 (vH (mM i) (vH (mM j) Lk))):=by
 rintro x σ H Q ⟨a,xs,rfl,hq,hl,v,r,rfl,v',r',rfl,rfl,q⟩;exact⟨a,_,Z,hq,hl,v,_,Z,v',_,Z,Z,⟨ke,fun k hk=>by rw[List.getElem?_set_ne J,List.getElem?_set_ne J]⟩,q⟩
theorem AE:bootBuiltins "all"=some (.builtin "all"):=by decide +kernel
theorem GI:bootBuiltins "min"=some (.builtin "min"):=by decide +kernel
theorem Jo:bootBuiltins "max"=some (.builtin "max"):=by decide +kernel
open PySem PySem.Spec PyProof.Rows PySem.SeqAt
mutual
inductive Gg (K:zdg)(H:Hp):V->PyData->Prop
 | non:Gg K H .non .none
 | bl (b:Bool):Gg K H (.bl b) (.bool b)
 | int (i:Int):Gg K H (.int i) (.int i)
 | str (x:Str):Gg K H (.str x) (.str x)
 | lst {a:Addr}{xs:List V}{ds:List PyData}:kR K H a xs->BW K H xs ds->Gg K H (.ref a) (.list ds)
 | tup {a:Addr}{xs:List V}{ds:List PyData}:lX K H a xs->BW K H xs ds->Gg K H (.ref a) (.tuple ds)
inductive BW (K:zdg)(H:Hp):List V->List PyData->Prop
 | nil:BW K H [] []
 | cons {x:V}{d:PyData}{xs:List V}{ds:List PyData}:Gg K H x d->BW K H xs ds->BW K H (x::xs) (d::ds)
end
section
variable {X:Cx}{ä:List (Addr×Obj)}{σ:St}{H:Hp}{s:Shared}
mutual
theorem sj (I:Inv X ä σ H s):∀{x:V}{d:PyData}{u:Value},Gg X.K H x d->RelV x u->∃as,Reads s.heap u d as
 | _,_,_,.non,r=>by cases r;exact⟨_,.none⟩
 | _,_,_,.bl b,r=>by cases r;exact⟨_,.bool b⟩
 | _,_,_,.int i,⟨t,e⟩=>by subst e;exact⟨_,.int i t⟩
 | _,_,_,.str y,⟨t,e⟩=>by subst e;exact⟨_,.str y t⟩
 | _,_,_,.lst h hs,r=>by
  cases r;obtain⟨â,rv,pl,_⟩:=I.list h;obtain⟨as,ra⟩:=sE I hs rv;obtain⟨o,ho,hc,n,hd⟩:=pl.isList;exact⟨_,.list ho hc hd ra⟩
 | _,_,_,.tup h hs,r=>by
  cases r;obtain⟨â,rv,pl,_⟩:=I.tuple h;obtain⟨as,ra⟩:=sE I hs rv;obtain⟨o,ho,hc,n,hd⟩:=pl;exact⟨_,.tuple ho hc hd ra⟩
theorem sE (I:Inv X ä σ H s):∀{xs:List V}{ds:List PyData}{us:List Value},BW X.K H xs ds->Vals xs us->∃as,ReadsAll s.heap us ds as
 | _,_,_,.nil,.nil=>⟨_,.nil⟩
 | _,_,_,.cons h t,.cons r rs=>by
  obtain⟨as,ra⟩:=sj I h r;obtain⟨bs,rb⟩:=sE I t rs;exact⟨_,.cons ra rb⟩
end
end
def Qb (K:zdg):R2:=fun x y H Q=>∃d e,Gg K H x d/\Gg K H y e/\shaped d=true/\shaped e=true/\noMix d e=true/\Q (.bl (same d e)) H
def NW (K:zdg):R2:=fun x y H Q=>∃d e,Gg K H x d/\Gg K H y e/\shaped d=true/\shaped e=true/\noMix d e=true/\Q (.bl (!same d e)) H
theorem Hs {A:Around}{k:Nat}(hr:nZ k A):A.units+64<cLine:=by have:=hr.un;lia
section
variable {X:Cx}
theorem C5 (hu:X.A.units+64<cLine):uT X (compareOp .Eq) (Qb X.K):=by
 intro ä s σ H x y v u Q I rx ry h;obtain⟨d,e,h1,h2,s1,s2,nm,q⟩:=h;obtain⟨as,ra⟩:=sj I h1 rx;obtain⟨bs,rb⟩:=sj I h2 ry;exact eq_dataH_same ra rb s1 s2 hu nm ⟨.bl _,H,I,Z,q⟩
theorem Jn (hu:X.A.units+64<cLine):uT X (compareOp .NotEq) (NW X.K):=by
 intro ä s σ H x y v u Q I rx ry h;obtain⟨d,e,h1,h2,s1,s2,nm,q⟩:=h;obtain⟨as,ra⟩:=sj I h1 rx;obtain⟨bs,rb⟩:=sj I h2 ry;exact ne_dataH_same ra rb s1 s2 hu nm ⟨.bl _,H,I,Z,q⟩
end
theorem zZ {K:zdg}{H:Hp}:∀ns:List Int,BW K H (ns.map zaa) (ns.map PyData.int)
 | []=>.nil
 | n::r=>.cons (.int n) (zZ r)
theorem Ho {K:zdg}{H:Hp}{a:Addr}{ns:List Int}(h:kR K H a (ns.map zaa)):Gg K H (.ref a) (.list (ns.map PyData.int)):=.lst h (zZ ns)
theorem IB (ns ms:List Int):noMix (.list (ns.map PyData.int)) (.list (ms.map PyData.int))=true:=by simp only[noMix];exact PySem.W.noMix_ints ns ms
theorem Du (ns ms:List Int):same (.list (ns.map PyData.int)) (.list (ms.map PyData.int))=decide (ns=ms):=by simp only[same];exact PySem.W.same_ints ns ms
theorem IX {K:zdg}{H:Hp}{a b:Addr}{ns ms:List Int}{Q:VK}(h1:kR K H a (ns.map zaa))(h2:kR K H b (ms.map zaa))(q:Q (.bl (decide (ns=ms))) H):Qb K (.ref a) (.ref b) H Q :=
 ⟨_,_,Ho h1,Ho h2,ic ns,ic ms,IB ns ms,by rw[Du];exact q⟩
theorem yL:∀{ns:List Int}{â:List Value},Vals (ns.map zaa) â->∃ts:List (Int×Tok),â=ts.map (fun p=>Value.int p.1 p.2)/\ts.map (·.1)=ns
 | [],_,.nil=>⟨[],Z,Z⟩
 | n::r,_,.cons ⟨t,e⟩ rs=>by
  obtain⟨ts,e1,e2⟩:=yL rs;subst e;exact⟨(n,t)::ts,by rw[e1];rfl,by rw[<-e2];rfl⟩
section
variable {X:Cx}
theorem yV (hc:X.calm=true):qh X (.builtin "sum") (fun xs H Q=>∃(a:Addr)(ns:List Int),xs=[.ref a]/\kR X.K H a (ns.map zaa)/\Q (.int ns.sum) H):=by
 intro ä s σ H xs us Q I r h;obtain⟨a,ns,rfl,hl,q⟩:=h;obtain⟨u,rfl,ru⟩:=vals1 r;cases ru;obtain⟨â,rv,pl,_⟩:=I.list hl;obtain⟨ts,e1,e2⟩:=yL rv;have hi:s.heap.IsList a (intItems ts.toArray):=by
  have e:intItems ts.toArray=â.toArray:=by rw[e1];simp[intItems]
  rw[e];exact pl.isList
 refine sum_intListG (I.ok.hd hc) hi fun h' tk t' hk=>⟨.int ns.sum,H,I.kept (t':=tk) hk,⟨t',?_⟩,q⟩;rw[preSum_eq,i4 ke,<-e2]
end
end L2
open L2 renaming inClass→zbh, ma→zbp, oY→zci, t6→zcx
namespace Ld
variable {n:Nat}{a b:List Int}
def S:Nat->(Int->Int)->Int
 | 0,_=>0
 | n+1,F=>S n F+F n
theorem kE {F G:Int->Int}:∀{n:Nat},(∀j:Nat,j<n->F j=G j)->S n F=S n G
 | 0,_=>rfl
 | n+1,h=>by simp only[S];rw[kE fun j hj=>h j kg,h n kg]
theorem og:∀n:Nat,S n (fun _=>0)=0
 | 0=>rfl
 | n+1=>by simp only[S];rw[og n];rfl
theorem nC (F G:Int->Int):∀n:Nat,S n (fun j=>F j+G j)=S n F+S n G
 | 0=>rfl
 | n+1=>by simp only[S];rw[nC F G n];lia
theorem lB (c:Int)(F:Int->Int):∀n:Nat,S n (fun j=>c*F j)=c*S n F
 | 0=>by simp[S]
 | n+1=>by simp only[S];rw[lB c F n,Int.mul_add]
theorem rH (c:Int)(F:Int->Int)(n:Nat):S n (fun j=>F j*c)=S n F*c:=by
 rw[aC,<-lB];exact kE fun j _=>aC _ _
theorem oi (F:Int->Int->Int)(m:Nat):∀n:Nat,S n (fun j=>S m (fun k=>F j k))=S m (fun k=>S n (fun j=>F j k))
 | 0=>by simp only[S];rw[og]
 | n+1=>by simp only[S];rw[oi F m n,<-nC]
theorem Cb {c:Int}{G:Int->Int}:∀{n:Nat},0<=c->S n (fun j=>if j=c then G j else 0)=if c<n then G c else 0
 | 0,h=>by simp only[S];rw[if_neg kg]
 | n+1,h=>by
  simp only[S];rw[Cb h]
  by_cases e:(n:Int)=c
  .subst e;rw[ak kg,aB Z,aB kg];lia
  .rw[ak e]
   by_cases q:c<(n:Int)
   .rw[aB q,aB kg];lia
   .rw[ak q,ak kg];lia
def vn (n:Nat)(F:Int->Int):Prop:=∀x y:Int,x%n=y%n->F x=F y
theorem vn.md {F:Int->Int}(h:vn n F)(x:Int):F (x%n)=F x:=h _ _ (bf x (c7 _))
theorem vF {n x y:Int}(c:Int)(h:x%n=y%n):(x+c)%n=(y+c)%n:=by rw[Int.add_emod,h,<-Int.add_emod]
def at' (a:List Int)(x:Int):Int:=a.getD (x%a.length).toNat 0
theorem Od (a:List Int):vn a.length (at' a):=fun x y h=>by unfold at';rw[h]
theorem pT (h:a.length=n):vn n (at' a):=h▸Od a
theorem wf (hn:0<n)(x:Int):(x%n).toNat<n:=by
 have h1:=aE x (show (n:Int)≠0 by omega);have h2:=aA x (show (0:Int)<n by omega);omega
theorem z5 (hn:0<n)(x:Int):(((x%n).toNat:Nat):Int)=x%n:=bZ (aE x kg)
theorem tP {x:Int}(h:0<a.length):a[(x%a.length).toNat]?=some (at' a x):=by
 have:=wf h x;unfold at';rw[ao,az this];rfl
theorem qI {k:Nat}{v:Int}(h:a[k]?=some v):at' a k=v:=by
 have hk:k<a.length:=(aF.mp h).1;unfold at';rw[aX kg kg,ae,ao,h];rfl
theorem Jl {k:Nat}(h:k<a.length):a[k]?=some (at' a k):=by
 rw[az h];exact cU some (qI (az h)).symm
theorem ext (hl:a.length=b.length)(h:∀k:Nat,k<a.length->at' a k=at' b k):a=b:=by
 refine ip fun k=>?_
 by_cases hk:k<a.length
 .rw[Jl hk,Jl (hl▸hk),h k hk]
 .rw[cG kg,cG kg]
theorem Al (hl:a.length=n)(hn:0<n)(x v y:Int):at' (a.set (x%n).toNat v) y=if y%n=x%n then v else at' a y:=by
 have hx:=wf hn x;have hy:=wf hn y;unfold at';rw[cq,hl,ao,jC]
 by_cases e:y%n=x%n
 .rw[aB e,e,aB Z,aB kg];rfl
 .rw[ak e,ak fun z=>e ?_,<-ao];have:=cU (Nat.cast (R:=Int)) z;rw[z5 hn,z5 hn] at this;exact this.symm
theorem Ih (n:Nat)(x:Int):at' (List.replicate n 0) x=0:=by
 unfold at';rw[ao,fX];split<;>rfl
def Ol (n:Nat)(h w:Int):List Int:=(List.replicate n 0).set (h%n).toNat w
def plus (a b:List Int):List Int:=List.zipWith (· + ·) a b
theorem qO (h:a.length=b.length):(plus a b).length=a.length:=by simp[plus,h]
theorem zM (h:a.length=b.length)(hn:0<a.length)(x:Int):at' (plus a b) x=at' a x+at' b x:=by
 have e:=tP (a:=plus a b) (x:=x) (by rw[qO h];exact hn);rw[qO h] at e;unfold plus at e;rw[cm,tP hn,show (x%a.length).toNat=(x%b.length).toNat by rw[h],tP kg] at e;exact(bL e).symm
def scaled (a:List Int)(m:Int):List Int:=a.map (· * m)
theorem tQ (a:List Int)(m:Int):(scaled a m).length=a.length:=by simp[scaled]
theorem FX (hn:0<a.length)(m x:Int):at' (scaled a m) x=at' a x*m:=by
 have e:=tP (a:=scaled a m) (x:=x) (by rw[tQ];exact hn);rw[tQ] at e;unfold scaled at e;rw[af,tP hn] at e;exact(bL e).symm
def conv (a b:List Int):List Int:=(List.range b.length).map fun x:Nat=>S b.length fun j=>at' a j*at' b ((x:Int)-j)
def Bd (B:Nat)(a:List Int):Prop:=∀x∈a,x.natAbs<=B
theorem Qv {B:Nat}(h:Bd B a)(x:Int):(at' a x).natAbs<=B:=by
 unfold at';rw[ao];cases e:a[(x%a.length).toNat]? with
 | none=>exact cX _
 | some v=>exact h v (ah e)
def nz (a:List Int)(i:Nat):List (Int×Int):=((List.range i).map fun j:Nat=>((j:Int),at' a j)).filter fun p=>decide (¬p.2=0)
end Ld
open Ld renaming S→zab, kE→zad, at'→zae, lB→zaj, scaled→zal, nC→zax, vn→zbb, oi→zbf, og→zbj, rH→zcg, qI→zch, pT→zcw
set_option maxHeartbeats 5000000
namespace L2
variable {n:Nat}{a:List Int}
open PySem PySem.Spec PyProof.Rows PySem.SeqAt
theorem qH {k:Int}(h0:0<=k)(h1:k<n):JN n k=some k.toNat:=by unfold JN;rw[if_pos h0,if_pos h1]
theorem At {xs:List V}(hl:xs.length=n)(hn:0<n)(x:Int):JN xs.length (x%n)=some (x%n).toNat:=by
 rw[hl];exact qH (aE _ J) (aA _ J)
theorem xk (hl:a.length=n):(a.map zaa).length=n:=by rw[aa,hl]
theorem EA (hl:a.length=n)(hn:0<n)(x:Int):m9 (a.map zaa) (x%n)=some (.int (zae a x)):=by
 subst hl;unfold m9;rw[At (xk Z) hn];show (a.map zaa)[(x%(a.length:Int)).toNat]?=_
 rw[af,Ld.tP hn];rfl
theorem AX {k:Int}(h0:0<=k)(hk:k<a.length):m9 (a.map zaa) k=some (.int (zae a k)):=by
 have:=EA (a:=a) Z J k;rwa [aX h0 hk] at this
theorem rep0 (m:Nat):(List.replicate ((m:Nat):Int).toNat [zaa 0]).flatten=(List.replicate m (0:Int)).map zaa:=by
 rw[ae]
 induction m with
 | zero=>rfl
 | succ k ih=>rw[cH,eL,ih,cH,c5];rfl
theorem set_int {j:Nat}{v:Int}:(a.map zaa).set j (.int v)=(a.set j v).map zaa:=by rw[List.map_set]
theorem oq {l:List Int}{i:Nat}{v:Int}(h:l[i]?=some v):(l.take (i+1)).map zaa=(l.take i).map zaa++[.int v]:=by
 rw[List.take_succ,h,aS];rfl
theorem oP {l:List Int}(h:l.length=n):(l.take n).map zaa=l.map zaa:=by rw[<-h,bY]
def Hz (H:Hp)(r:Addr)(ps:List (Int×Int)):Prop:=∃as:List Addr,H r=some (.lst (as.map zac))/\Paired (fun a (x:Int×Int)=>H a=some (.tup [.int x.1,.int x.2])) as ps
theorem pI {as:List Addr}{i:Nat}{x:V}(h:(as.map zac)[i]?=some x):∃a,x=.ref a/\as[i]?=some a:=by
 rw[af] at h;cases e:as[i]? with
 | none=>rw[e] at h;cases h
 | some v=>rw[e] at h;cases h;exact⟨v,Z,Z⟩
theorem rF {g:TG}{tb:TS}{D:Ends}{σ:St}{H:Hp}(Pv:Nat->St->Hp->Prop)(h0:Pv 0 σ H)
 (hs:∀i σ H,i<n->Pv i σ H->g (.int i) σ H fun n8 H2=>tb { D with nx:=Pv (i+1),ct:=Pv (i+1),bk:=D.nx } n8 H2)(hd:∀σ H,Pv n σ H->D.nx σ H) :
    ∃W:Nat->Nat->St->Hp->Prop,(∃m,W 0 m σ H)/\∀i m σ H,W i m σ H ->
      ((DF 0 n).stop i H/\D.nx σ H)\/((DF 0 n).go i H/\∃N:St->Hp->Prop,(∀mw H',N mw H'->∃m',m'<m/\W (i+1) m' mw H')/\∀x H',(DF 0 n).yld i H x H'->g x σ H' fun n8 H2=>tb { D with nx:=N,ct:=N,bk:=D.nx } n8 H2) :=
  zt Pv h0 (fun i σ H hi p=>by rw[dO];exact hs i σ H hi p) hd
theorem qD {g:TG}{tc:TT}{te:TE}{mw:St}{H:Hp}{Q:VK}(Pv:Nat->List V->Hp->Prop)(h0:Pv 0 [] H)(hz:∀i ys H,i<n->Pv i ys H->ys.length<sizeLine)
 (hs:∀i ys H,i<n->Pv i ys H->g (.int i) mw H fun n8 H2=>tc n8 H2 fun b H3=>if b=true then te n8 H3 fun y H4=>Pv (i+1) (ys++[y]) H4 else Pv (i+1) ys H3)(hd:∀ys H,Pv n ys H->∀D,H D=none->Q (.ref D) (upd H D (.lst ys))) :
    oh (DF 0 n) g tc te mw Q H:=xU Pv h0 hz (fun i ys H hi p=>by rw[dO];exact hs i ys H hi p) hd
theorem qj {X:Cx}{K:zdg}(h:X.K=K):Pd X (Q9 K):=by subst h;exact lP
theorem Fv {X:Cx}{K:zdg}(h:X.K=K):qh X (.builtin "len") (fun xs H Q=>∃p ys,xs=[.ref p]/\(kR K H p ys\/lX K H p ys)/\Q (.int ys.length) H):=by subst h;exact ur
open PySem PySem.Spec PyProof.Rows
def Tu (h:Heap)(e:Addr)(own:List Addr)(cls:Value):Prop :=
 ∃oe vs,h.get? e=some oe/\oe.cls=cls/\oe.dict=none/\oe.data=.fields vs /\
  ((vs[1]?=some .none/\own=[e])\/∃T oT ts,vs[1]?=some (.ref T)/\own=[e,T]/\T≠e/\h.get? T=some oT/\oT.data=.fields ts/\ts[3]?=some .none)
def Dt (h:Heap)(e T:Addr)(cls:Value):Prop :=
 ∃oe vs oT ts,h.get? e=some oe/\oe.cls=cls/\oe.dict=none/\oe.data=.fields vs/\vs[1]?=some (.ref T)/\T≠e/\h.get? T=some oT/\oT.data=.fields ts/\ts[3]?=some .none
theorem Dt.Z3 {h:Heap}{e T:Addr}{cls:Value}(x:Dt h e T cls):Tu h e [e,T] cls:=by
 obtain⟨oe,vs,oT,ts,a,b,c,d,f,g,i,j,k⟩:=x;exact⟨oe,vs,a,b,c,d,.inr ⟨T,oT,ts,f,Z,g,i,j,k⟩⟩
structure TC (fs own:List Addr)(h h':Heap):Prop where
 keep:∀b o,h.get? b=some o->b∉fs->b∉own->h'.get? b=some o
 slot:∀b o,h.get? b=some o->b∈fs->∃sl,h'.get? b=some { o with slots:=sl }
section
variable {Q:Unit->Shared->Prop}
variable {M:Model}{A:Around}{E:Value->Shared->Prop}{s:Shared}{env:Env}{outer:List Env}{L e:Addr}{base:Heap}
theorem FY (o:Obj)(f:Array Value->Array Value):(o.mapFields f).dict=o.dict:=by
 obtain⟨c,d,dt,sl⟩:=o;cases dt<;>rfl
theorem xT {oe:Obj}{vs:Array Value}{head:Value}{LD:Bool}
 (hfr:A.frames=some (env::outer))(hl:s.heap.FunFrames base (env::outer))(hf:env.frame=some L)(he:s.heap.get? e=some oe)(hd:oe.data=.fields vs)(hsz:1<vs.size)
 (k:∀h' T,TC (ye (env::outer)) [e] s.heap h'->s.heap.get? T=none->Dt h' e T oe.cls->Q () { s with heap:=h' })(JR:oe.dict=none) :
    wpAny M A (do
      let fr <-frameOf env
      let pl <-entryPlaceOf L LD
      let tb <-EntryCells.newEntry head fr .none (rawInt L) .none pl
      setField (.ref e) 1 tb) (fun _ s'=>wpAny M A (setFlight (.ref e) none) Q E s') E s:=by
  have nf:e∉ye (env::outer):=fun hm=>by
    obtain⟨_,o,ho,hn⟩:=hl.mem hm;rw[he] at ho;cases ho;exact hn vs hd
  refine aO (wpAny_frameOf_fun hfr hl hf fun h1 x1=>?_);refine aO (wpAny_entryPlaceOf fun pl sY=>?_);unfold EntryCells.newEntry newFields;refine aO (wpAny_newObj_type ?_ (sY.sizeOk5 _ _ _ _ _));have e1:h1.get? e=some oe:=(x1.2.1 e nf).trans he;generalize hto:({ cls:=.type "traceback",dict:=none,data:=.fields ([head,.ref L,.none,rawInt L,.none]++(if pl.isEmpty then List.replicate 6 Value.none else pl)).toArray }:Obj)=OH;obtain⟨ts,Yu,ht3⟩:∃ts:Array Value,OH.data=.fields ts/\3<ts.size:=⟨_,by rw[<-hto],by simp only[List.size_toArray,List.length_append,List.length_cons,List.length_nil];omega⟩;have e2:(h1.push OH).get? e=some oe:=aM _ e1;have ne:h1.objs.size≠e:=fun z=>dM _ (z▸bB e1);refine ir e2 hd hsz ?_;have d3:=gU hd (·.setIfInBounds 1 (Value.ref h1.objs.size));have e3:=fK (Obj.mapFields (·.setIfInBounds 1 (Value.ref h1.objs.size))) e2 (fQ d3);have tfr:OH.isFreed=false:=fQ Yu;have t3:((h1.push OH).update e (Obj.mapFields (·.setIfInBounds 1 (Value.ref h1.objs.size)))).get? h1.objs.size=some OH :=
    (cP (h1.push OH) _ (cM ne)).trans (bV h1 tfr)
  unfold setFlight;refine aO (iu e3 d3 (x:=.ref h1.objs.size) (by simp[hsz]) ?_);rw[aB (show (Value.ref h1.objs.size != Value.none)=true from by simp)];refine ir t3 Yu ht3 ?_;have d4:=gU Yu (·.setIfInBounds 3 ((none:Option Addr).elim Value.none fun f=>rawInt f));have t4:=fK (Obj.mapFields (·.setIfInBounds 3 ((none:Option Addr).elim Value.none fun f=>rawInt f))) t3 (fQ d4);have old:∀b o,b≠e->h1.get? b=some o->(((h1.push OH).update e (Obj.mapFields (·.setIfInBounds 1 (Value.ref h1.objs.size)))).update h1.objs.size (Obj.mapFields (·.setIfInBounds 3 ((none:Option Addr).elim Value.none fun f=>rawInt f)))).get? b=some o:=fun b o hb q=>by
    have hT:h1.objs.size≠b:=fun z=>dM _ (z▸bB q);rw[cP _ _ hT,cP _ _ (cM hb)];exact aM _ q
  refine k _ h1.objs.size ⟨fun b o q nb no=>old b o (fun z=>no (by simp[z])) ((x1.2.1 b nb).trans q),fun b o q hb=>?_⟩ (Heap.get?_none_of_le (by rw[x1.1];exact Nat.le_refl _)) ?_
  · obtain⟨sl,q1⟩:=x1.2.2 b o q
    exact⟨sl,old b _ (fun z=>nf (z▸hb)) q1⟩
  · refine⟨_,_,_,_,(cP _ _ ne).trans e3,Obj.cls_mapFields _ _,(FY _ _).trans JR,d3,by simp[hsz],ne,t4,d4,by simp[ht3]⟩
theorem A9 {own:List Addr}{cls:Value}(hfr:A.frames=some (env::outer))(hl:s.heap.FunFrames base (env::outer))(hf:env.frame=some L)(x:Tu s.heap e own cls)
 (k:∀h' T,TC (ye (env::outer)) own s.heap h'->(T∈own\/s.heap.get? T=none)->Dt h' e T cls->Q () { s with heap:=h' }) :
    wpAny M A (noteFrame (.ref e) env) (fun _ s2=>wpAny M A (setFlight (.ref e) none) Q E s2) E s:=by
  obtain⟨oe,vs,he,rfl,JR,hd,⟨h1,rfl⟩ | ⟨T,oT,ts,h1,rfl,Pr,hT,JS,h3⟩⟩:=x
  · unfold noteFrame
    simp only[hf];refine aO (iu he hd h1 ?_);rw[ak O];exact xT hfr hl hf he hd (fF.mp h1).1 (fun h' T p n t=>k h' T p (.inr n) t) JR
  · unfold noteFrame
    simp only[hf];refine aO (iu he hd h1 ?_);rw[aB (show (Value.ref T != Value.none)=true from by simp)];refine aO (iu hT JS h3 ?_);rw[ak (show ¬((Value.none == rawInt L)=true) from by simp[rawInt])];refine aO (ir hT JS (fF.mp h3).1 ?_);have OI:∀b,b≠T->(s.heap.update T (Obj.mapFields (·.setIfInBounds 3 Value.none))).get? b=s.heap.get? b:=fun b hb=>cP _ _ (cM hb);have dT:=gU JS (·.setIfInBounds 3 Value.none);have gT:=fK (Obj.mapFields (·.setIfInBounds 3 Value.none)) hT (fQ dT);have hnT:∀b o,s.heap.get? b=some o->(∀ws,o.data≠.fields ws)->b≠T:=fun b o hb hn z=>by
      rw[z,hT] at hb;cases hb;exact hn ts JS
    refine xT (hl.of_keeps fun b o hb hn=>⟨o,(OI b (hnT b o hb hn)).trans hb,Z⟩) hf ((OI e (cM Pr)).trans he) hd (fF.mp h1).1 (fun h' T' p n t=>k h' T' ⟨fun b o q nb no=>?_,fun b o q hb=>?_⟩ (.inr ?_) t) JR (hfr:=hfr)
    · have hb:b≠e/\b≠T:=⟨fun z=>no (by simp[z]),fun z=>no (by simp[z])⟩
      exact p.keep b o ((OI b hb.2).trans q) nb (by simpa using hb.1)
    · obtain⟨_,o',E3,RT⟩:=hl.mem hb
      rw[q] at E3;cases E3;exact p.slot b o ((OI b (hnT b o q RT)).trans q) hb
    · by_cases z:T'=T
      · rw[z,gT] at n;cases n
      · rw[OI T' z] at n;exact n
theorem CS {T:Addr}{cls:Value}(x:Dt s.heap e T cls)(k:∀h',(∀b o,b≠T->s.heap.get? b=some o->h'.get? b=some o)->Dt h' e T cls->Q () { s with heap:=h' }) :
  wpAny M A (setFlight (.ref e) none) Q E s:=by
 obtain⟨oe,vs,oT,ts,he,rfl,JR,hd,h1,Pr,hT,JS,h3⟩:=x;unfold setFlight;refine aO (iu he hd h1 ?_);rw[aB (show (Value.ref T != Value.none)=true from by simp)];have l3:3<ts.size:=(fF.mp h3).1;refine ir hT JS l3 (k _ (fun b o hb q=>(cP _ _ (cM hb)).trans q) ?_);have dT:=gU JS (·.setIfInBounds 3 ((none:Option Addr).elim Value.none fun f=>rawInt f));exact⟨oe,vs,_,_,(cP _ _ Pr).trans he,Z,JR,hd,h1,Pr,fK _ hT (fQ dT),dT,by simp[l3]⟩
end
theorem nE.ex {P:Program}{w:World}{H:Hp}{h:Heap}{a:Addr}{o:HO}(x:nE P w H h a o):∃ob,h.get? a=some ob:=by
 cases o with
 | lst xs=>obtain⟨_,_,_,_,e⟩:=x;exact⟨_,e⟩
 | tup xs=>obtain⟨_,_,_,p⟩:=x;obtain⟨ob,e,_⟩:=p;exact⟨ob,e⟩
 | dK kvs=>obtain⟨_,_,_,_,o,_,_,e,_⟩:=x;exact⟨_,e⟩
 | dT kvs=>obtain⟨_,_,_,_,o,_,_,e,_⟩:=x;exact⟨_,e⟩
 | set S n=>obtain⟨o,_,_,_,e,_⟩:=x;exact⟨_,e⟩
 | ins C dx fs=>obtain⟨_,_,_,e,_⟩:=x;exact⟨_,e⟩
 | own y=>obtain⟨_,e⟩:=x;exact⟨_,e⟩
 | xd fs=>obtain⟨_,⟨_,_,_,e,_⟩,_⟩:=x;exact⟨_,e⟩
 | AM lo hi=>obtain⟨_,_,_,e⟩:=x;exact⟨_,e⟩
 | frz ob u=>obtain⟨e,_⟩:=x;exact⟨_,e⟩
 | tbl ps=>exact⟨_,(show h.get? a=some _ from x)⟩
 | met f y=>exact⟨_,(show h.get? a=some _ from x)⟩
 | ext φ=>obtain⟨_,e,_⟩:=x;exact e
theorem vh.free {P:Program}{w:World}{H:Hp}{h:Heap}{a:Addr}(x:vh P w H h)(n:h.get? a=none):H a=none:=by
 cases q:H a with
 | none=>rfl
 | some o =>
  obtain⟨ob,e⟩:=(x a o q).ex;rw[n] at e;cases e
structure px (X:Cx)(ä:List (Addr×Obj))(H:Hp)(b:Addr):Prop where
 new:X.s₀.heap.get? b=none
 un:H b=none
 loc:b≠X.env.locals
 cel:∀x c,X.env.cells.lookup x=some c->c≠b
 pin:∀p∈X.pn++ä,p.1≠b
section
variable {X:Cx}{ä:List (Addr×Obj)}{σ:St}{H:Hp}{s:Shared}{h':Heap}{own:List Addr}
theorem Inv.Wm (I:Inv X ä σ H s)(p:TC (ye X.stack) own s.heap h')(ho:∀b∈own,px X ä H b):Inv X ä σ H { s with heap:=h' }:=by
 have TN:∀b o,X.s₀.heap.get? b=some o->b≠X.env.locals:=fun b o e=>cy (bj (bB e) I.ok.above);have Yv:∀b o,X.s₀.heap.get? b=some o->b∉own:=fun b o e z=>by rw[(ho b z).new] at e;cases e
 have any:∀b o,s.heap.get? b=some o->b∉own->∃sl,h'.get? b=some { o with slots:=sl }:=fun b o e n=>by
  by_cases z:b∈ye X.stack
  .exact p.slot b o e z
  .exact⟨o.slots,p.keep b o e z n⟩
 have cellK:∀x c,X.env.cells.lookup x=some c->∀v,s.heap.IsCell c v->h'.IsCell c v:=fun x c e v ⟨o,q,hd⟩=>by
  obtain⟨sl,q'⟩:=any c o q fun z=>(ho c z).cel x c e Z;exact⟨_,q',hd⟩
 refine⟨I.ok,I.os,I.bare,⟨fun b o e n hb hx=>?_,fun b o e n hb hx=>?_,I.base.free,fun b o e hx=>?_,I.base.tups,I.base.frzs,I.base.tbls⟩,?_,fun x c e=>?_,I.free,I.freeC,fun q hq=>?_,fun a o e=>?_,I.len⟩
 .refine p.keep b o (I.base.keep b o e n hb hx) (fun z=>?_) (Yv b o e);rcases List.mem_cons.mp (I.uU b z) with y | y
  .exact TN b o e y
  .exact hb y
 .obtain⟨sl,q⟩:=I.base.slot b o e n hb hx;obtain⟨Ox,q'⟩:=any b _ q (Yv b o e);exact⟨Ox,q'⟩
 .obtain⟨o',q⟩:=I.base.there b o e hx;obtain⟨sl,q'⟩:=any b o' q (Yv b o e);exact⟨_,q'⟩
 .obtain⟨m,hn,hl⟩:=I.loc;obtain⟨o,es,ep,q,r⟩:=id hn;obtain⟨sl,q'⟩:=any _ o q fun z=>(ho _ z).loc Z;refine⟨m,⟨_,es,ep,q',r⟩,fun i x v e1 e2 e3=>?_⟩;obtain⟨u,ru,lu⟩:=hl i x v e1 e2 e3;refine⟨u,ru,?_⟩;rcases lu with l | ⟨kk,c,e,z⟩
  .exact .inl l
  .exact .inr ⟨kk,c,e,cellK x c e _ z⟩
 .obtain⟨v,z⟩:=I.cell x c e;exact⟨v,cellK x c e v z⟩
 .obtain⟨e,n,ne,nf,d⟩:=I.pin q hq;refine⟨p.keep _ _ e (fun z=>?_) (fun z=>(ho _ z).pin q hq Z),n,ne,nf,d⟩;rcases List.mem_cons.mp (I.uU _ z) with y | y
  .exact ne y
  .exact nf y
 .have tr:∀b u,H b=some u->b∉ye X.stack/\b∉own:=fun b u q=>⟨fun z=>(by rw[I.Ac b z] at q;cases q),fun z=>(by rw[(ho b z).un] at q;cases q)⟩;refine(I.hok a o e).yB (fun b u hb q=>?_) (fun _ q=>q) fun _ _ q=>q;rcases hb with z | z
  .rw[z] at q ⊢;exact p.keep _ _ q (tr a o e).1 (tr a o e).2
  .exact p.keep _ _ q (tr b _ z).1 (tr b _ z).2
theorem px.of (I:Inv X ä σ H s){H':Hp}{b:Addr}(hex:X.ex=[])(n:s.heap.get? b=none)(u:H' b=none):px X ä H' b:=by
 refine⟨?_,u,fun z=>?_,fun x c e z=>?_,fun p hp z=>?_⟩
 .cases q:X.s₀.heap.get? b with
  | none=>rfl
  | some o =>
   obtain⟨o',e⟩:=I.base.there b o q (by rw[hex];exact fun z=>(nomatch z));rw[n] at e;cases e
 .obtain⟨m,⟨o,_,_,q,_⟩,_⟩:=I.loc;rw[<-z,n] at q;cases q
 .obtain⟨v,o,q,_⟩:=I.cell x c e;rw[z,n] at q;cases q
 .have q:=(I.pin p hp).1;rw[z,n] at q;cases q
theorem Inv.Qe {u:HO}{a:Addr}(I:Inv X ä σ H s)(o:px X ä H a)(new:nE X.prog X.w (upd H a u) s.heap a u):Inv X ä σ (upd H a u) s:=by
 have ne:∀b v,H b=some v->b≠a:=fun b v e=>kP e o.un;refine⟨I.ok,I.os,I.bare,⟨I.base.keep,I.base.slot,fun b ob e n hx=>?_,I.base.there,fun b xs q=>?_,fun b ob v q=>?_,fun b ps q=>?_⟩,I.loc,I.cell,?_,fun x c e=>?_,fun p hp=>?_,fun b v e=>?_,I.len⟩
 .rw[kO (fun z=>by rw[z,o.new] at e;cases e)];exact I.base.free b ob e n hx
 .have q':=I.base.tups b xs q;rw[kO (ne _ _ q')];exact q'
 .have q':=I.base.frzs b ob v q;rw[kO (ne _ _ q')];exact q'
 .obtain⟨more,q'⟩:=I.base.tbls b ps q;exact⟨more,by rw[kO (ne _ _ q')];exact q'⟩
 .rw[kO (cM o.loc)];exact I.free
 .rw[kO (o.cel x c e)];exact I.freeC x c e
 .obtain⟨e,n,r⟩:=I.pin p hp;exact⟨e,by rw[kO (o.pin p hp)];exact n,r⟩
 .by_cases hb:b=a
  .subst hb;rw[ko] at e;cases e;exact new
  .rw[kO hb] at e;exact(I.hok b v e).yB (fun _ _ _ q=>q) (fun c q=>by rw[kO (ne _ _ q)];exact q) fun c xs q=>by rw[kO (ne _ _ q)];exact q
end
def AK (P:Program)(w:World):Gi:=fun outer H s E e s' =>
 ∃ea T cls H',e=.ref ea/\s'.os=s.os/\AllBare s'.gens/\Un (ye outer) [] H H' s.heap s'.heap/\vh P w H' s'.heap/\Dt s'.heap ea T cls/\s.heap.get? ea=none/\s.heap.get? T=none/\H' ea=none/\H' T=none/\E cls none H'
theorem NC {P:Program}{w:World}{X:Cx}:Passes (AK P w) X E0:=fun _ _ _ _ _ _ _ h=>by
 obtain⟨_,_,_,_,_,_,_,_,_,_,_,_,_,_,z⟩:=h;exact z.elim
theorem pK.of0 {P P':Program}{w w':World}{K:zdg}{mg:Str->Option Value}{base:Heap}{k:Nat}{f:Addr}{fd:FuncData}{ps:List Str}{sp:Sp}(F:pK P w K mg base Dl k f fd ps sp):pK P w K mg base (AK P' w') k f fd ps sp :=
 ⟨F.len,fun A outer s H args us vs Q E hr he hb hv hs=>gP (F.run A outer s H args us vs Q E hr he hb hv hs) fun r s' h=>by
  cases r with
  | ok fl=>cases fl<;>exact h
  | error e=>exact False.elim h⟩
section
variable {X:Cx}{ä:List (Addr×Obj)}{σ:St}{H:Hp}{s s':Shared}{E:XK}{e:Value}
def Xw (X:Cx)(ä:List (Addr×Obj))(σ:St)(E:XK)(e:Value)(s':Shared):Prop :=
 ∃ea T cls H',e=.ref ea/\Inv X ä σ H' s'/\Dt s'.heap ea T cls/\px X ä H' ea/\px X ä H' T/\E cls none H'
theorem Inv.Qf (I:Inv X ä σ H s)(hex:X.ex=[])(h:AK X.prog X.w X.stack H s E e s'):Xw X ä σ E e s':=by
 obtain⟨ea,T,cls,H',rfl,os,bare,un,hok,tr,n1,n2,u1,u2,q⟩:=h;exact⟨ea,T,cls,H',Z,I.Mv (ch:=[]) os un hok bare (fun b z=>(nomatch z)),tr,px.of I hex n1 u1,px.of I hex n2 u2,q⟩
end
section
variable {P:Program}{w:World}{K:zdg}{mg:Str->Option Value}{base:Heap}{N:List Str}{ç:Str}{scope:Scope}{f:Addr}{cd:Value}{A:Around}{outer:List Env}{s0:Shared}{H0:Hp}{E:XK}
 {ä:List (Addr×Obj)}{σ:St}{H:Hp}{s:Shared}
theorem HD {ea:Addr}{own:List Addr}{cls:Value}(I:Inv (qX (AK P w) P w K mg base N ç scope f cd A outer s0 H0 E) ä σ H s)(x:Tu s.heap ea own cls)
  (ho:∀b∈own,px (qX (AK P w) P w K mg base N ç scope f cd A outer s0 H0 E) ä H b)(hm:ea∈own)(q:E cls none H):(qX (AK P w) P w K mg base N ç scope f cd A outer s0 H0 E).xe (.ref ea) s:=by
 show wpAny (model P w) _ (leaving _ (.ref ea)) _ _ s
 unfold leaving;refine aO (A9 (L:=s0.heap.objs.size) I.ok.frames I.stack Z x fun h' T p hT tr=>?_);have I':=I.Wm p ho;have nT:(qX (AK P w) P w K mg base N ç scope f cd A outer s0 H0 E).s₀.heap.get? T=none/\H T=none:=by
  rcases hT with z | z
  .exact⟨(ho T z).new,(ho T z).un⟩
  .have:=px.of (H':=H) I Z z (I.hok.free z);exact⟨this.new,this.un⟩
 exact⟨ea,T,cls,H,Z,I'.os,I'.bare,I'.base,I'.hok,tr,(ho ea hm).new,nT.1,(ho ea hm).un,nT.2,q⟩
theorem J7 {E':XK}(h:∀cls H,E' cls none H->E cls none H):Passes (AK P w) (qX (AK P w) P w K mg base N ç scope f cd A outer s0 H0 E) E':=by
 intro ä σ H s e s' I c;obtain⟨ea,T,cls,H',rfl,I',tr,o1,o2,q⟩:=I.Qf Z c;refine HD I' tr.Z3 (fun b hb=>?_) ke (h _ _ q);rcases List.mem_cons.mp hb with z | z
 .rw[z];exact o1
 .rw[bF.mp z];exact o2
end
theorem Kt {K:zdg}{h:Heap}{mg:Str->Option Value}{x:Str}{C:Addr}{bmB:List Value}{newId:String}(X:K.In h)(b:mg x=some (.ref C))(q:PySem.W.excIn K C bmB newId=true):OwnCls x C bmB newId mg h:=by
 refine⟨b,?_⟩;unfold PySem.W.excIn at q;split at q
 .rename_i dd cd sl ho;split at q
  .rename_i C' bm k0 k1 k2 k3 n k5 hm hs;simp only[Bool.and_eq_true,beq_iff_eq,Bool.not_eq_true'] at q;obtain⟨⟨⟨⟨⟨rfl,rfl⟩,Sb⟩,ht⟩,hok⟩,TZ⟩:=q;cases cd;dsimp only at hm Sb hok TZ;subst hm Sb;obtain⟨l⟩:=sl;have Jz:l=[k0,k1,k2,k3,some (.builtin n),k5]:=hs;subst Jz;exact⟨_,_,_,_,_,_,_,_,_,_,_,_,_,_,_,_,_,X _ _ ho,.of_isNs (PySem.W.isNs_of_in X hok),PySem.W.nsMap_none_of_in X hok TZ,PySem.W.tail_of_in X ht⟩
  .cases q
 .cases q
def Ek (X:Cx)(E:XK):Prop:=∀(ä:List (Addr×Obj))(σ:St)(H:Hp)(s:Shared)(ea:Addr)(cls:Value),Inv X ä σ H s->Tu s.heap ea [ea] cls->px X ä H ea->E cls none H->X.xe (.ref ea) s
def Oe (C:Addr)(E:XK)(t:TA):TS:=fun _ σ H=>t σ H fun vs H1=>vs.length<=sizeLine/\E (.ref C) none H1
section
variable {X:Cx}{e:Expr}{es:List Expr}{t:TA}{x:Str}{np cpos pos:Pos}{C:Addr}{E:XK}
theorem Bm {bm:List Value}{newId B OJ:String}(hc:X.calm=true)(hex:X.ex=[])(hx:Ek X E)(hm:X.mg x=some (.ref C))(q:PySem.W.excIn X.K C bm newId=true)(FB:ExcBaseFacts B newId OJ bm)(hg:Gl X x)(ha:PA X (e::es) t)
  (yE:(x == ("__debug__":Str))=false:=by decide)(he:starEach (e::es) X.env=(false,eval e X.env)::starEach es X.env:=by rfl)(sY:(backTo cpos (starEach es X.env)).any (·.1)=false:=by rfl) :
  PS X (.Raise (some (.Call (.Name x np) (e::es) [] cpos)) none pos) (Oe C E t):=by
 intro ä s σ H D I h;obtain⟨tl,Nn,nm,qq,bs,hdct,sn,sub,ab,col,dd,k0,k1,k2,k3,k5,mN,hC,hN,TZ,T⟩:=(Kt I.mod.kin hm q).obj;refine wpAny_Raise_call_subT (C:=C) (nm:=nm) (q:=qq) (N:=Nn) (bs:=bs) (bm:=tl) (hdct:=hdct) (sn:=sn) (sub:=sub) (ab:=ab) (col:=col) (dd:=dd) (k0:=k0) (k1:=k1) (k2:=k2) (k3:=k3) (k5:=k5) (mN:=mN)
  FB (T.hasType FB.hasBase) (I.ok.hd hc) (by rw[he];show (false || (backTo cpos (starEach es X.env)).any (·.1))=false;rw[sY];rfl) TZ (uv I hg hm ⟨Z,?_⟩ yE)
 have hA:=ha cpos ä s σ H _ I h;rw[he] at hA ⊢;refine j6 (nK hA fun us s2 ⟨vs,H2,I2,rv,hz,qE⟩=>⟨Z,(by rw[<-rv.length];exact hz),I2.bk _ _ hC,hN.keeps I2.bk,T.keeps I2.bk,fun h' ea me=>?_⟩);obtain⟨tt,ge,_,_⟩:=me.there;exact hx ä σ H2 _ ea (.ref C) (I2.kept (t':=s2.toks) me.keeps) ⟨_,_,ge,Z,Z,Z,.inl ⟨Z,Z⟩⟩ (px.of I2 hex me.new (I2.hok.free me.new)) qE
end
section
variable {P:Program}{w:World}{K:zdg}{mg:Str->Option Value}{base:Heap}{N:List Str}{ç:Str}{scope:Scope}{f:Addr}{cd:Value}{A:Around}{outer:List Env}{s0:Shared}{H0:Hp}{E:XK}
theorem Bl:Ek (qX (AK P w) P w K mg base N ç scope f cd A outer s0 H0 E) E:=fun ä σ H s ea cls I x o q =>
 HD I x (fun b hb=>by rw[bF.mp hb];exact o) ke q
theorem DL:PassesOwn (model P w) (qX (AK P w) P w K mg base N ç scope f cd A outer s0 H0 E).A (qX (AK P w) P w K mg base N ç scope f cd A outer s0 H0 E).env (qX (AK P w) P w K mg base N ç scope f cd A outer s0 H0 E).xe :=
 PassesOwn.leaving (Q₁:=fun e s''=>AK P w outer H0 s0 E e s'') (E₁:=fun e' s''=>AK P w outer H0 s0 E e' s'')
end
structure Dx (P:Program)(w:World)(K:zdg)(mg:Str->Option Value)(base:Heap)(k:Nat)(x:Str)(ps:List Str)(sp:Sp):Prop where
 ex:∃(f:Addr)(fd:FuncData),pK P w K mg base (AK P w) k f fd ps sp/\Binds K fd ps []/\PySem.W.keepIn K (.ref f)=true/\mg x=some (.ref f)
theorem Dx.mono {P:Program}{w:World}{K:zdg}{mg:Str->Option Value}{base:Heap}{j k:Nat}{x:Str}{ps:List Str}{sp:Sp}(D:Dx P w K mg base j x ps sp)(h:j<=k):Dx P w K mg base k x ps sp :=
 let ⟨f,fd,F,r⟩:=D.ex;⟨f,fd,F.mono h,r⟩
theorem Df.x {P:Program}{w:World}{K:zdg}{mg:Str->Option Value}{base:Heap}{k:Nat}{x:Str}{ps:List Str}{sp:Sp}(D:Df P w K mg base k x ps sp):Dx P w K mg base k x ps sp :=
 let ⟨f,fd,F,r⟩:=D.ex;⟨f,fd,F.of0,r⟩
theorem Dn.ZX {P:Program}{w:World}{K:zdg}{mg:Str->Option Value}{base:Heap}{x:Str}{st:Stmt}{N ps:List Str}{k:Nat}{sp:Sp}(D:Dn K mg x st ps)(S:kL N ps (kG st))(len:∀vs H Q E,sp vs H Q E->vs.length=ps.length)
  (hbody:∀(f:Addr)(cdv:Value)(A:Around)(outer:List Env)(s:Shared)(H:Hp)(vs:List V)(Q:VK)(E:XK),nZ k (A.deeper (envOfC x (kG st) s.heap.objs.size f cdv))->sp vs H Q E ->
   ∃t,yu (qX (AK P w) P w K mg base N x (kG st) f cdv A outer s H E) (mH st) t/\t { nx:=fun _ H'=>Q .non H',rt:=Q } (start N vs) H):Dx P w K mg base (k+1) x ps sp:=by
 obtain⟨f,fd,F,b,m⟩:=D.ex;obtain⟨oc,od,kV,doc,pm,an,cdv,ct,osl,rfl,lk,vP⟩:=F.ex;exact⟨f,_,LZ lk vP S len fun A outer s H vs Q E hr h=>hbody f cdv A outer s H vs Q E hr h,b,F.kp,m⟩
section
variable {X:Cx}{k:Nat}{x:Str}{ps:List Str}{sp:Sp}{e:Expr}{es:List Expr}{t:TA}{p pos:Pos}{E:XK}
theorem L3 (hx:Passes (AK X.prog X.w) X E)(D:Dx X.prog X.w X.K X.mg X.base k x ps sp)(hr:nZ k X.A)(hg:Gl X x)(ha:PA X (e::es) t)(yE:(x == ("__debug__":Str))=false:=by decide)
  (he:starEach (e::es) X.env=(false,eval e X.env)::starEach es X.env:=by rfl)(sY:(backTo pos (starEach es X.env)).any (·.1)=false:=by rfl) :
  PE X (.Call (.Name x p) (e::es) [] pos) (A5 sp [] E t):=by
 obtain⟨f,fd,F,hb,hk,hm⟩:=D.ex;exact D0 F hr hg hm hk hb .nil hx ha yE he sY
theorem Ng (D:Dx X.prog X.w X.K X.mg X.base k x ps sp)(hr:nZ k X.A)(hg:Gl X x)(ha:PA X (e::es) t)(yE:(x == ("__debug__":Str))=false:=by decide)
  (he:starEach (e::es) X.env=(false,eval e X.env)::starEach es X.env:=by rfl)(sY:(backTo pos (starEach es X.env)).any (·.1)=false:=by rfl) :
  PE X (.Call (.Name x p) (e::es) [] pos) (A5 sp [] E0 t):=L3 NC D hr hg ha yE he sY
end
abbrev Z6:=St->Hp->VK->XK->Prop
abbrev TJ:=Ends->(St->XK)->St->Hp->Prop
def Z5 (X:Cx)(e:Expr)(t:Z6):Prop :=
 ∀(ä:List (Addr×Obj))(s:Shared)(σ:St)(H:Hp)(Q:VK)(E:XK),Inv X ä σ H s->t σ H Q E->wpAny (model X.prog X.w) X.A (eval e X.env) (EP X ä σ Q) (Xw X ä σ E) s
def ZS (X:Cx)(ä:List (Addr×Obj))(E:St->XK)(e:Value)(s':Shared):Prop:=∃mw,Xw X ä mw (E mw) e s'
def ZY (X:Cx)(st:Stmt)(t:TJ):Prop :=
 ∀(ä:List (Addr×Obj))(s:Shared)(σ:St)(H:Hp)(D:Ends)(E:St->XK),Inv X ä σ H s->t D E σ H->wpAny (model X.prog X.w) X.A (exec st X.env) (SP X ä D) (ZS X ä E) s
def Rr (X:Cx)(st:List Stmt)(t:TJ):Prop :=
 ∀(ä:List (Addr×Obj))(s:Shared)(σ:St)(H:Hp)(D:Ends)(E:St->XK),Inv X ä σ H s->t D E σ H->wpAny (model X.prog X.w) X.A (execs st X.env) (SP X ä D) (ZS X ä E) s
section
variable {X:Cx}{st:Stmt}{e:Expr}{pos:Pos}
theorem B3 {t:TJ}(h1:ZY X st t):Rr X [st] t:=by
 intro ä s σ H D E I h;refine hI (nK (h1 ä s σ H D E I h) fun f s1 q=>?_);cases f with
 | next=>exact gg q
 | ret v=>exact q
 | brk=>exact q
 | cont=>exact q
theorem BS {te:Z6}(he:Z5 X e te)(hs:swapsWith e none pos.line X.env=pure false:=by rfl):ZY X (.Expr e pos) (fun D E σ H=>te σ H (fun _ H1=>D.nx σ H1) (E σ)):=by
 intro ä s σ H D E I h;exact wpAny_Expr_any (c9 (he ä s σ H _ _ I h) (fun v s1 ⟨x,H1,I1,r1,q1⟩=>⟨σ,H1,I1,q1⟩) fun _ _ z=>⟨σ,z⟩) I.quiet hs
theorem HR {k:Nat}{x:Str}{ps:List Str}{sp:Sp}{es:List Expr}{t:TA}{p:Pos}(hex:X.ex=[])(D:Dx X.prog X.w X.K X.mg X.base k x ps sp)(hr:nZ k X.A)(hg:Gl X x)(ha:PA X.Fc (e::es) t)(yE:(x == ("__debug__":Str))=false:=by decide)
  (he:starEach (e::es) X.env=(false,eval e X.env)::starEach es X.env:=by rfl)(sY:(backTo pos (starEach es X.env)).any (·.1)=false:=by rfl) :
  Z5 X (.Call (.Name x p) (e::es) [] pos) (fun σ H Q E=>t σ H fun vs H1=>sp vs H1 Q E):=by
 intro ä s σ H Q E I h;obtain⟨f,fd,F,hb,hk,hm⟩:=D.ex;refine fv (uv I hg hm ?_ yE);refine gH (h₀:=X.base) I.ok.mod.kin hk (c9 (ha pos ä s σ H _ (I.ve _) h) (fun us s1 ⟨vs,H1,I1,r,q⟩=>⟨I1.t5,?_⟩) fun _ _ z=>False.elim z) he sY;have I1:=I1.qg;have hl:us.length=ps.length:=by rw[<-r.length];exact F.len _ _ _ _ q
 have TU:=hb s1 us I1.t5 (by rw[fU];exact hl);rw[fU] at TU;refine iI (gP (F.run X.A X.stack s1 H1 ⟨us,[]⟩ us vs Q E hr I1.ND TU r q) fun r s' hq=>?_);cases r with
 | error e=>exact I1.Qf hex hq
 | ok fl =>
  cases fl with
  | ret u=>exact I1.after hq
  | next=>exact False.elim hq
  | brk=>exact False.elim hq
  | cont=>exact False.elim hq
end
open PySem PySem.Spec PySem.W PySem.Calls PyProof.Rows
section
variable {M:Model}{K:zdg}
theorem Cf {cls:Value}:∀{cs:List Value}{b:Bool},PySem.W.exmAny K cls cs=some b->∀c∈cs,∃v,PySem.W.exmOne K cls c=some v
 | [],_,_,c,hc=>nomatch hc
 | d::r,b,h,c,hc=>by
  obtain⟨b1,d1,x1,y1,z1⟩:=PySem.W.exmAny_cons h;rcases List.mem_cons.mp hc with e | e
  .rw[e];exact⟨b1,x1⟩
  .exact Cf y1 c e
theorem KR {cs:List Value}{cls:Value}{tp e:Addr}{b:Bool}{h:Heap}{n:Nat}{o:Obj}(X:K.In h)(LT:PySem.W.Looks M h (typeOf (.ref e)) cls)(hp:h.get? tp=some o)(hc:o.cls=.type "tuple")(hd:o.data=.seq cs.toArray n)
  (hx:PySem.W.exmAny K cls cs=some b):PySem.W.Looks M h (excMatches (.ref e) (.ref tp)) b:=by
 intro A Q E s k q;have LT0:PySem.W.Looks M h (isInstance (.ref tp) (.type "tuple")) true:=by
  refine PySem.W.Looks.andThen (a:=.type "tuple") ?_ (PySem.W.Looks.of_pure isSubtype_tuple_tuple);exact hc▸(jJ hp).andThen .now
 have X':=X.keeps k;have one:∀c∈cs,∃v,PySem.W.exmOne K cls c=some v:=Cf hx;unfold excMatches;refine aO ((LT0.keeps k).here ?_);dsimp only;rw[aB Z];refine aO (wpAny_seqItems (k _ _ hp) hd (aO (bX ?_)));dsimp only[Option.getD_some,Option.getD];refine aO (c9 (wpAny_forIn_list _ (fun rest _ s'=>s'=s/\∀c∈rest,c∈cs) (fun _ s'=>s'=s) ?_ (fun _ _ h=>h.1) _ _ ⟨Z,fun c hc=>hc⟩) (fun _ s' es=>?_) fun _ _ z=>z)
 .rintro c rest ⟨⟩ s' ⟨rfl,hm⟩;obtain⟨v,hv⟩:=one c (hm c List.mem_cons_self);refine aO (((jU (M:=M) X' hv).1).here ?_);rw[ak (show ¬(!true)=true from aU)];exact bX ⟨Z,fun c hc=>hm c (ar _ hc)⟩
 subst es;refine aO ((LT.keeps k).here ?_);refine aO (c9 (wpAny_forIn_list _ (fun rest c s''=>s''=s'/\c=(none,())/\PySem.W.exmAny K cls rest=some b) (fun c s''=>s''=s'/\((c=(some true,())/\b=true)\/(c=(none,())/\b=false))) ?_ ?_ _ _ ⟨Z,Z,hx⟩) (fun c s'' h=>?_) fun _ _ z=>z)
 .rintro c rest st s'' ⟨rfl,rfl,hr⟩;obtain⟨b1,d1,x1,y1,z1⟩:=PySem.W.exmAny_cons hr;refine aO (((jU (M:=M) X' x1).2).here ?_);cases b1 with
  | true =>
   rw[aB Z];exact bX ⟨Z,.inl ⟨Z,by rw[z1];rfl⟩⟩
  | false =>
   rw[ak aU];refine bX ⟨Z,Z,?_⟩;rw[y1,z1];rfl
 .rintro c s'' ⟨rfl,rfl,hr⟩;have:some false=some b:=hr;cases this;exact⟨Z,.inr ⟨Z,Z⟩⟩
 .obtain⟨rfl,⟨rfl,rfl⟩ | ⟨rfl,rfl⟩⟩:=h
  .exact bX q
  .exact bX q
end
def QF:V->Option Value
 | .ref a=>some (.ref a)
 | .ty n=>some (.type n)
 | _=>none
def AV:List V->Option (List Value)
 | []=>some []
 | x::r=>match QF x,AV r with
  | some c,some cs=>some (c::cs)
  | _,_=>none
theorem wS:∀{xs:List V}{us cs:List Value},Vals xs us->AV xs=some cs->us=cs
 | [],_,_,.nil,h=>by cases h;rfl
 | x::r,u::us,cs,.cons rx rr,h=>by
  unfold AV at h;split at h
  .rename_i c cs' h1 h2;cases h;rw[wS rr h2];cases x with
   | ref a=>cases h1;cases (show u=Value.ref a from rx);rfl
   | ty n=>cases h1;cases (show u=Value.type n from rx);rfl
   | _=>cases h1
  .cases h
end L2
namespace L2
open PySem PySem.Spec PyProof.Rows
def Cx.pA (X:Cx)(ea:Addr):Cx:={ X with A:=X.A.mark (some (.ref ea)),calm:=false,xe:=fun _ _=>eC }
section
variable {X:Cx}{ä:List (Addr×Obj)}{σ:St}{H:Hp}{s:Shared}{ea:Addr}
theorem Cx.Ok.pA (ok:X.Ok)(ea:Addr):(X.pA ea).Ok :=
 ⟨ok.mod,ok.kind,ok.glob,ok.blt,ok.above,ok.inj,ok.has,ok.cab,fun h=>Bool.noConfusion h,ok.frames,ok.stk,ok.exf,ok.bs,ok.bsz,ok.noex,ok.exfs,ok.t8,ok.frf⟩
theorem Inv.pA (I:Inv X ä σ H s)(ea:Addr):Inv (X.pA ea) ä σ H s:=⟨I.ok.pA ea,I.os,I.bare,I.base,I.loc,I.cell,I.free,I.freeC,I.pin,I.hok,I.len⟩
theorem Inv.uh (ok:X.Ok)(I:Inv (X.pA ea) ä σ H s):Inv X ä σ H s:=⟨ok,I.os,I.bare,I.base,I.loc,I.cell,I.free,I.freeC,I.pin,I.hok,I.len⟩
def Cz (ea:Addr)(cls:Value):HO:=.ext fun h=>∃o vs,h.get? ea=some o/\o.cls=cls/\o.dict=none/\o.data=.fields vs
theorem NY {P:Program}{w:World}{h:Heap}{T:Addr}{cls:Value}(x:Dt h ea T cls):nE P w H h ea (Cz ea cls):=by
 obtain⟨oe,vs,oT,ts,he,hc,JR,hd,_⟩:=x;refine⟨⟨oe,vs,he,hc,JR,hd⟩,⟨oe,he⟩,?_⟩;rintro h1 h2 ⟨o,vs',a,b⟩ k;exact⟨o,vs',k o a,b⟩
theorem sR {M:Model}{A:Around}{E:Value->Shared->Prop}{i:Nat}{n:Str}{pos:Pos}{Q:Unit->Shared->Prop}(I:Inv X ä σ H s)(hN:X.N.Nodup)(hi:X.N[i]?=some n)(hk:X.env.scope.names.lookup n=some .local)
  (h:∀s',Inv X ä (σ.set i none) H s'->Q () s'):wpAny M A (do bindName X.env n .none;unbindBehindTheSuite X.env n pos) Q E s:=by
 obtain⟨m,hn,hl⟩:=id I.loc;have Oy:(X.env.scope.kind == .class || (X.env.scope.kind == .module && X.env.locals != X.env.globals))=false:=by rw[I.ok.kind];rfl
 refine wpAny_nameGoes_keeps hk hn Oy fun h' v RT hs=>h _ ?_;obtain⟨oL,_,_,hoL,_⟩:=id hn;have ne:∀b o,X.s₀.heap.get? b=some o->b≠X.env.locals:=fun b o e=>cy (bj (bB e) I.ok.above);refine⟨I.ok,I.os,I.bare,⟨fun b o e n hb hx=>(hs.2 b (ne b o e)).trans (I.base.keep b o e n hb hx),fun b o e n hb hx=>?_,I.base.free,fun b o e hx=>?_,I.base.tups,I.base.frzs,I.base.tbls⟩,⟨_,RT,fun j y v' e1 e2 e3=>?_⟩,fun y c e=>?_,I.free,I.freeC,fun p hp=>?_,fun a o e=>?_,by simpa using I.len⟩
 .obtain⟨sl,q⟩:=I.base.slot b o e n hb hx;exact⟨sl,(hs.2 b (ne b o e)).trans q⟩
 .obtain⟨o',q⟩:=I.base.there b o e hx;exact⟨o',(hs.2 b (ne b o e)).trans q⟩
 .by_cases hj:j=i
  .subst hj;rw[jC] at e2;split at e2
   .split at e2<;>cases e2
   .rename_i z;exact absurd Z z
  .rw[fD (cM hj)] at e2;obtain⟨u,r,q⟩:=hl j y v' e1 e2 e3;refine⟨u,r,?_⟩;rcases q with ⟨kk,e⟩ | ⟨kk,c,e,z⟩
   .refine .inl ⟨kk,?_⟩;have:y≠n:=fun z=>hj (w5 hN e1 (z▸hi));simp[this,e]
   .exact .inr ⟨kk,c,e,z.sameBut hs (I.Lw y c e)⟩
 .obtain⟨w',z⟩:=I.cell y c e;exact⟨w',z.sameBut hs (I.Lw y c e)⟩
 .obtain⟨e,n,nl,nf,d⟩:=I.pin p hp;exact⟨(hs.2 p.1 nl).trans e,n,nl,nf,d⟩
 .refine(I.hok a o e).yB (fun b u hb q=>(hs.2 b fun z=>?_).trans q) (fun _ q=>q) fun _ _ q=>q;have fr:=I.free;rcases hb with y | y
  .rw[<-z,y,e] at fr;cases fr
  .rw[<-z,y] at fr;cases fr
end
def HM (D:Ends)(i:Nat):Ends:={ nx:=fun σ H=>D.nx (σ.set i none) H,rt:=D.rt,bk:=fun σ H=>D.bk (σ.set i none) H,ct:=fun σ H=>D.ct (σ.set i none) H }
def Mt (K:zdg)(H:Hp)(c:V)(cls:Value)(b:Bool):Prop:=match c with
 | .ref C=>PySem.W.exmOne K cls (.ref C)=some b\/∃ys cs,H C=some (.tup ys)/\AV ys=some cs/\PySem.W.exmAny K cls cs=some b
 | .ty T=>PySem.W.exmOne K cls (.type T)=some b
 | _=>eC
abbrev Qy:=Ends->Value->St->Hp->Prop
def PH (X:Cx)(hs:List ExceptHandler)(t:Qy):Prop :=
 ∀(ä:List (Addr×Obj))(s:Shared)(σ:St)(H:Hp)(D:Ends)(ea T:Addr)(cls:Value),Inv X ä σ H s->Dt s.heap ea T cls->px X ä H ea->px X ä H T->t D cls σ H ->
  wpAny (model X.prog X.w) X.A (handleBy (.ref ea) X.env hs) (SP X ä D) X.xe s
theorem By {X:Cx}{hs:List ExceptHandler}:PH X hs (fun _ _ _ _=>eC):=fun _ _ _ _ _ _ _ _ _ _ _ _ h=>h.elim
section
variable {X:Cx}{ä:List (Addr×Obj)}{σ:St}{H:Hp}{s:Shared}{ea T:Addr}{cls:Value}
theorem px.Il (I:Inv X ä σ H s){b:Addr}(o:px X ä H b):b∉X.fs:=fun hb=>by
 obtain⟨_,ob,q,_⟩:=I.ok.t8.mem hb;rw[o.new] at q;cases q
theorem px.Qu (I:Inv X ä σ H s){b:Addr}(o:px X ä H b):b∉ye X.stack:=fun hb=>by
 rcases List.mem_cons.mp (I.uU b hb) with z | z
 .exact o.loc z
 .exact o.Il I z
theorem Cy {M:Model}{h:Heap}(x:Dt h ea T cls):PySem.W.Looks M h (typeOf (.ref ea)) cls:=by
 obtain⟨oe,vs,oT,ts,he,hc,_⟩:=x;exact hc▸(jJ he).andThen .now
theorem J3 {tx:Expr}{te:TE}{pos:Pos}{R:Result->Shared->Prop}(ht:PE (X.pA ea) tx te)(I:Inv X ä σ H s)(x:Dt s.heap ea T cls)(o1:px X ä H ea)(o2:px X ä H T)
  {Q0:VK}(h:te σ H Q0)(q:∀c H1 s1,Q0 c H1->Inv X ä σ H1 s1->Dt s1.heap ea T cls->px X ä H1 ea->px X ä H1 T->∃b,Mt X.K H1 c cls b/\R (.ok (if b then .brk else .next)) s1) :
  codeAny (model X.prog X.w) (X.A.mark (some (.ref ea))) (.handlers (.ref ea) [.ExceptHandler (some tx) none [] pos] X.env) R s:=by
 obtain⟨oe,vs,oT,ts,he,hc,JR,hd,h1,Pr,hT,JS,h3⟩:=id x;have I0:Inv (X.pA ea) (ä++[(ea,oe),(T,oT)]) σ H s:=(I.pA ea).rp fun p hp=>by
  rcases List.mem_append.mp hp with z | z
  .exact I.pin p (aZ _ z)
  .rcases List.mem_cons.mp z with y | y
   .rw[y];exact⟨he,o1.un,o1.loc,o1.Il I,fun v q=>by have q':oe.data=_:=q;rw[hd] at q';cases q'⟩
   .rw[bF.mp y];exact⟨hT,o2.un,o2.loc,o2.Il I,fun v q=>by have q':oT.data=_:=q;rw[JS] at q';cases q'⟩
 refine codeAny_handlers_test (c9 (ht _ s σ H _ I0 h) (fun u s1 ⟨c,H1,I1,rc,qc⟩=>?_) fun _ _ z=>False.elim z);have p1:=I1.pin (ea,oe) ke;have p2:=I1.pin (T,oT) ke;have x1:Dt s1.heap ea T cls:=⟨oe,vs,oT,ts,p1.1,hc,JR,hd,h1,Pr,p2.1,JS,h3⟩;have I2:Inv X ä σ H1 s1:=Inv.uh I.ok (I1.rp fun p hp=>I1.pin p (aZ _ (cA _ hp)));obtain⟨b,mt,fin⟩:=q c H1 s1 qc I2 x1 ⟨o1.new,p1.2.1,o1.loc,o1.cel,o1.pin⟩ ⟨o2.new,p2.2.1,o2.loc,o2.cel,o2.pin⟩;cases c with
 | ref C =>
  cases (show u=Value.ref C from rc);rcases mt with mt | ⟨ys,cs,ht,hv,mt⟩
  .exact(jV I2.t5 (Cy x1) mt).here fin
  .obtain⟨â,rv,⟨o,ho,hcl,n,hda⟩,_⟩:=I2.tuple (lX.of ht);have ev:=wS rv hv;subst ev;exact(KR I2.t5 (Cy x1) ho hcl hda mt).here fin
 | ty n =>
  cases (show u=Value.type n from rc);exact(jV I2.t5 (Cy x1) mt).here fin
 | _=>exact mt.elim
theorem KU {M:Model}{A:Around}{E:Value->Shared->Prop}{Q:Unit->Shared->Prop}(I:Inv X ä σ H s)(x:Dt s.heap ea T cls)(o1:px X ä H ea)(o2:px X ä H T)
  (h:∀s1,Inv X ä σ (upd H ea (Cz ea cls)) s1->Q () s1):wpAny M A (setFlight (.ref ea) none) Q E s:=by
 refine CS x fun h' k x'=>h _ ?_;have p:TC (ye X.stack) [T] s.heap h':=⟨fun b o q _ n=>k b o (fun z=>n (by simp[z])) q,fun b o q hb=>⟨o.slots,k b o (fun z=>o2.Qu I (z▸hb)) q⟩⟩;have I':=I.Wm p fun b hb=>by rw[bF.mp hb];exact o2
 exact I'.Qe o1 (NY x')
end
section
variable {X:Cx}{Sd:Stmt}{pA:List Stmt}{rest:List ExceptHandler}{tx:Expr}{te:TE}{ts:TS}{tr:Qy}{pos:Pos}
theorem P7 {ä:List (Addr×Obj)}{D:Ends}{i:Nat}{n:Str}{f:Flow}{s:Shared}{ea:Addr}{Yw:Pos}{E:Value->Shared->Prop}(ok:X.Ok)(hN:X.N.Nodup)(hi:X.N[i]?=some n)(hk:X.env.scope.names.lookup n=some .local)(h:SP (X.pA ea) ä (HM D i) f s) :
  wpAny (model X.prog X.w) X.A (do bindName X.env n .none;unbindBehindTheSuite X.env n Yw) (fun _ s'=>SP X ä D f s') E s:=by
 cases f with
 | next=>obtain⟨σ,H,I,q⟩:=h;exact sR (I.uh ok) hN hi hk fun s' I'=>⟨_,H,I',q⟩
 | brk=>obtain⟨σ,H,I,q⟩:=h;exact sR (I.uh ok) hN hi hk fun s' I'=>⟨_,H,I',q⟩
 | cont=>obtain⟨σ,H,I,q⟩:=h;exact sR (I.uh ok) hN hi hk fun s' I'=>⟨_,H,I',q⟩
 | ret u=>obtain⟨v,σ,H,I,r,q⟩:=h;exact sR (I.uh ok) hN hi hk fun s' I'=>⟨v,_,H,I',r,q⟩
def tAs (K:zdg)(i:Nat)(te:TE)(ts:TS)(tr:Qy):Qy:=fun D cls σ H=>te σ H fun c H1=>∃b,Mt K H1 c cls b/\if b=true then ∀ea,H1 ea=none->ts (HM D i) (σ.set i (some (.ref ea))) (upd H1 ea (Cz ea cls)) else tr D cls σ H1
theorem IU {i:Nat}{n:Str}(hN:X.N.Nodup)(hi:X.N[i]?=some n)(hk:X.env.scope.names.lookup n=some .local)(ht:∀ea,PE (X.pA ea) tx te)(hs:∀ea,yu (X.pA ea) (Sd::pA) ts)(hr:PH X rest tr) :
  PH X (.ExceptHandler (some tx) (some n) (Sd::pA) pos::rest) (tAs X.K i te ts tr):=by
 intro ä s σ H D ea T cls I x o1 o2 h;refine wpAny_handleBy_cons (J3 (ht ea) I x o1 o2 h fun c H1 s1 ⟨b,mt,q⟩ I1 x1 u1 u2=>⟨b,mt,?_⟩) (by intro q;cases q);cases b with
 | false=>exact hr ä s1 σ H1 D ea T cls I1 x1 u1 u2 q
 | true =>
  refine codeAny_handlers_suite_as (KU I1 x1 u1 u2 fun s2 I2=>?_);refine wG (X:=X.pA ea) (v:=.ref ea) (I2.pA ea) hN hi (.inl hk) Z (fun s3 I3=>?_) (.inr hk);exact c9 (hs ea ä s3 _ _ (HM D i) I3 (q ea u1.un)) (fun f s4 z=>P7 I.ok hN hi hk z) fun _ _ z=>False.elim z
theorem Jd {body:List Stmt}{h₀:ExceptHandler}{hs:List ExceptHandler}{tb:TJ}{th:Qy}(hex:X.ex=[])(ub:X.stack=X.env::X.outer)(hfm:X.env.frame=some X.env.locals)(hb:Rr X body tb)(hh:PH X (h₀::hs) th) :
  PS X (.Try body (h₀::hs) [] [] pos) (fun D σ H=>tb D (fun JO cls _ H1=>th D cls JO H1) σ H):=by
 intro ä s σ H D I h;refine wpAny_Try_except (c9 (hb ä s σ H D _ I h) (fun f s1 q=>?_) fun e s1 ⟨JO,ea,T,cls,H1,e1,I1,x1,o1,o2,q⟩=>?_)
 .cases f with
  | next=>exact gg q
  | ret v=>exact q
  | brk=>exact q
  | cont=>exact q
 .subst e1;have fr:=I1.ok.frames;have st:=I1.stack;rw[ub] at fr st;refine A9 fr st hfm x1.Z3 fun h' T' p hT tr=>?_;rw[<-ub] at p;have own:∀b∈[ea,T],px X ä H1 b:=fun b hb=>by
   rcases List.mem_cons.mp hb with z | z
   .rw[z];exact o1
   .rw[bF.mp z];exact o2
  have I2:=I1.Wm p own;refine hh ä _ JO H1 D ea T' cls I2 tr o1 ?_ q;rcases hT with z | z
  .exact own T' z
  .exact px.of I1 hex z (I1.hok.free z)
end
open PySem PySem.Spec PySem.W PySem.Calls PyProof.Rows
structure yh (K:zdg)(C:Addr):Prop where
 ga:PySem.W.findIn K (.ref C) "__getattribute__"=some (some (.builtin "BaseException.__getattribute__"))
 gt:PySem.W.findIn K (.ref C) "__getattr__"=some none
 kc:PySem.W.findIn K (.ref C) "__class__"=some (some (.builtin "object.__class__"))
 ob:PySem.W.mroIn K C (.type "object")=some true
 be:PySem.W.mroIn K C (.type "BaseException")=some true
 gs:PySem.W.specialIn K (.builtin "object.__class__") "__get__"=some (some (.builtin "getset_descriptor.__get__"))
 tk:PySem.W.takesIn K (.builtin "object.__class__")=some true
theorem yh.cls {K:zdg}{C:Addr}(k:yh K C):∃cd,PySem.W.clsIn K C=some cd:=by
 obtain⟨cd,h,_⟩:=Option.bind_eq_some_iff.mp k.ob;exact⟨cd,h⟩
theorem GF:builtinKind "BaseException.__getattribute__"=some .slot:=by decide +kernel
theorem FF:splitId "BaseException.__getattribute__"=some ("BaseException","__getattribute__"):=by decide +kernel
section
variable {prog:Program}{w:World}{A:Around}{E:Value->Shared->Prop}{s:Shared}{K:zdg}{x C:Addr}{ox:Obj}
theorem Gf {nm:Value}{Q:Unit->Shared->Prop}(k:yh K C)(X:K.In s.heap)(I:PySem.W.InstAt s.heap x ox C none)(h:Q () s):wpAny (model prog w) A (checkBuiltinCall "BaseException.__getattribute__" ⟨[.ref x,nm],[]⟩) Q E s:=by
 have L0:=I.type (M:=model prog w);have L1:=PySem.W.looks_mroIn (M:=model prog w) X k.be;have LI:PySem.W.Looks (model prog w) s.heap (isInstance (.ref x) (.type "BaseException")) true:=L0.andThen L1;simp only[checkBuiltinCall,GF,FF];refine aO (LI.here ?_);simp only[Bool.not_true,Bool.false_eq_true,if_false];have ha:=F.args_bexc_ga (.ref x) nm;cases Yx:Manifest.signature? "BaseException.__getattribute__" with
 | none=>exact bX h
 | some sig =>
  simp only[argsOk,Yx] at ha;have h2:Bind.checkArgs "BaseException.__getattribute__" sig ⟨[.ref x,nm],[]⟩=pure ():=ha;show wpAny _ _ (Bind.checkArgs "BaseException.__getattribute__" sig ⟨[.ref x,nm],[]⟩) Q E s
  rw[h2];exact bX h
theorem Fs {Q:Option Value->Shared->Prop}(k:yh K C)(X:K.In s.heap)(I:PySem.W.InstAt s.heap x ox C none)(h:Q (some (.ref C)) { s with toks:=s.toks+1 }):wpAny (model prog w) A (getAttr? (.ref x) "__class__") Q E s:=by
 obtain⟨cd,vP⟩:=k.cls;have hf:PySem.W.findObj K C none "__class__"=some (.bind (.builtin "getset_descriptor.__get__") (.builtin "object.__class__")):=by
  unfold PySem.W.findObj;rw[vP,gV,k.kc,gV];dsimp only;rw[k.gs,gV];dsimp only;rw[k.tk,gV]
 obtain⟨hh,g,d,t,os⟩:=s;have L0:=I.type (M:=model prog w);have L1:=jo (M:=model prog w) X k.ga;have LH:=PySem.W.looks_hook (M:=model prog w) (mc:=.ref C) (r:=none) X k.gt;have LF:=PySem.W.looks_find (M:=model prog w) X I hf;unfold getAttr? getAttrBy? getAttrBy;refine aO (wpAny_mkText (aO (wpAny_attempt (gE (aO (L0.at (aO (L1.at ?_))))))));show wpAny _ _ (getAttrByItsOwn _ _ _ _ _ _) _ _ _
 unfold getAttrByItsOwn;refine aO (LH.at (aO (wpAny_attempt (gE ?_))));show wpAny _ _ (boundAndCalled _ _ _) _ _ _
 unfold boundAndCalled;rw[j7.ga.bind];refine aO (bX ?_);refine iI (codeAny_call_builtin j7.ga.plain F.entry_bexc_ga (Gf k X I ?_));unfold Builtin.«object.__getattribute__»;refine aO (bX ?_);refine aO (bX ?_);refine aO (L0.at (aO (LF.at ?_)));show wpAny _ _ (holding [.builtin "object.__class__"] (call (.builtin "getset_descriptor.__get__") [.builtin "object.__class__",.ref x,.ref C]) >>= ret) _ _ _
 refine aO (gE (iI (PySem.W.class_get (ox:=ox) (od:=none) X I k.ob (bX ?_))));show wpAny _ _ (handedOut (.ref C)) _ _ _
 exact bX (bX h)
def No (x:Addr)(C:Addr)(h:Heap):Prop:=∃o vs,h.get? x=some o/\o.cls=.ref C/\o.dict=none/\o.data=.fields vs
theorem No.inst {h:Heap}(e:No x C h):∃o,PySem.W.InstAt h x o C none:=by
 obtain⟨o,vs,a,b,c,d⟩:=e;refine⟨o,a,b,?_,?_⟩
 .unfold PySem.W.notCls;rw[d]
 .rw[c];trivial
theorem BZ (k:yh K C):PySem.W.KitX K (.ref x) (.ref C) (No x C) where
 ty:=fun M h _ e=>by
  obtain⟨o,I⟩:=e.inst;exact I.type
 it:=fun M h X _=>by
  obtain⟨cd,vP⟩:=k.cls;unfold PySem.W.clsIn at vP;split at vP
  .rename_i c' d' cd' Ox ho;intro A' Q' E' s' kk q;unfold isType loadHead;exact aO (wpAny_loadPart (kk _ _ (X _ _ ho)) (bX q))
  .cases vP
 ne:=fun h tp dd â n sl X htp=>by
  obtain⟨cd,vP⟩:=k.cls;refine Bool.eq_false_iff.mpr fun q=>?_;have e:C=tp:=Value.ref.inj (gY.mp q);subst e;unfold PySem.W.clsIn at vP;split at vP
  .rename_i c' d' cd' Ox ho;have z:=(X _ _ ho).symm.trans htp;cases z
  .cases vP
 ca:=fun X e q=>by
  obtain⟨o,I⟩:=e.inst;exact Fs k X I q
end
section
variable {X:Cx}
theorem As {K:zdg}(hK:X.K=K):qh X (.builtin "isinstance") (fun xs H Q=>∃ea C c cv b,xs=[.ref ea,c]/\H ea=some (Cz ea (.ref C))/\yh K C/\QF c=some cv/\PySem.W.kitOne K (.ref C) cv=some b/\Q (.bl b) H):=by
 subst hK;intro ä s σ H xs us Q I r h;obtain⟨ea,C,c,cv,b,rfl,hx,k,rc,kk,q⟩:=h;obtain⟨u,w',rfl,ru,AN⟩:=vals2 r;cases ru;have e:w'=cv:=by
  cases c with
  | ref a=>cases rc;exact AN
  | ty n=>cases rc;exact AN
  | _=>cases rc
 subst e;obtain⟨⟨o,vs,a1,a2,a3,a4⟩,_⟩:=(show nE X.prog X.w H s.heap ea (Cz ea (.ref C)) from I.hok ea _ hx);exact fi (BZ k) I.t5 ⟨o,vs,a1,a2,a3,a4⟩ kk (fun z=>nomatch z) fun tk=>⟨.bl b,H,I.tok tk,Z,q⟩
end
section
variable {X:Cx}
theorem oX {K:zdg}(hK:X.K=K):qh X (.builtin "isinstance") (fun xs H Q=>∃ea C tp ys cs b,xs=[.ref ea,.ref tp]/\H ea=some (Cz ea (.ref C))/\yh K C/\H tp=some (.tup ys)/\AV ys=some cs/\PySem.W.kitAny K (.ref C) cs=some b/\Q (.bl b) H):=by
 subst hK;intro ä s σ H xs us Q I r h;obtain⟨ea,C,tp,ys,cs,b,rfl,hx,k,ht,hv,kk,q⟩:=h;obtain⟨u,w',rfl,ru,AN⟩:=vals2 r;cases ru;cases AN;obtain⟨â,rv,pl,_⟩:=I.tuple (lX.of ht);have e:=wS rv hv;subst e;obtain⟨⟨cl,dd,da,sl⟩,ho,hc,n,hd⟩:=pl;dsimp only at hc hd;subst hc hd;obtain⟨⟨o,vs,a1,a2,a3,a4⟩,_⟩:=(show nE X.prog X.w H s.heap ea (Cz ea (.ref C)) from I.hok ea _ hx);exact PySem.W.kia_tup (BZ k) I.t5 ⟨o,vs,a1,a2,a3,a4⟩ ho kk (fun z=>nomatch z) fun tk=>⟨.bl b,H,I.tok tk,Z,q⟩
end
theorem yx:bootBuiltins "ValueError"=some (.type "ValueError"):=by decide +kernel
end L2
namespace L2
open PySem PySem.Spec PyProof.Rows
def GY (lo st:Int)(n:Nat):It:=⟨fun i _=>i<n,fun i H x H'=>H'=H/\x=.int (lo+i*st),fun i _=>n<=i⟩
theorem BV {P:Program}{w:World}{K:zdg}{tg:Expr}(it:Addr)(lo st:Int)(n:Nat):Turn P w K tg (GY lo st n) [it] it (fun i h=>IsRangeIter h it (lo+(i:Nat)*st) ((n:Int)-(i:Nat)) st) where
 mem:=by simp
 obj:=fun i h st b hb=>by
  have e:b=it:=by simpa using hb
  subst e;exact⟨_,st,fun v z=>by
   have z':Data.fields _=Data.cell v:=z;cases z'⟩
 keep:=fun i h h' st k=>k it ke _ st
 item:=by
  intro X hP hw hK hc i ä s σ H E I hf JP hg;subst hP hw hK;obtain⟨f0,f1,f2,f3,f4,f5⟩:=hf it ke;have W:=Walks.range (prog:=X.prog) (w:=X.w) (I.ok.hd hc) it lo st n;refine W.item i s _ _ hg JP fun v h' tk hv Se kk=>?_;obtain⟨t,rfl⟩:=hv;have I1:Inv X ä σ H { s with heap:=h',toks:=tk }:=I.turned (fun b o hb e=>kk b o (by simpa using hb) e) f0 f1 f3 f4 f5;exact⟨_,Z,EU (s:={ s with heap:=h',toks:=tk }) (n:="range_iterator") Se Z Z O ⟨.int (lo+i*st),H,I1,⟨t,Z⟩,⟨Z,Z⟩,Se,fun b hb=>(hf b hb).1⟩⟩
 done:=by
  intro X hP hw hK hc i ä s σ H E I hf st hg;subst hP hw hK;obtain⟨f0,f1,f2,f3,f4,f5⟩:=hf it ke;exact jF (I.ok.hd hc) st (by have:n<=i:=hg;omega) fun h' eb=>⟨Z,I.turned (t':=s.toks) (fun b o hb e=>eb b o hb e) f0 f1 f3 f4 f5⟩
 self:=fun _ _ _ _ _ st h=>jG st h
def xE (lo hi st:Int):Nat:=if lo<hi then ((hi-lo-1)/st+1).toNat else 0
theorem Mp {lo hi st:Int}(h:0<st):Builtin.Range.rangeSize lo hi st=(xE lo hi st:Nat):=by
 unfold Builtin.Range.rangeSize xE;rw[aB h];split
 .have:=cK (show 0<=hi-lo-1 by omega) (show 0<=st by omega);omega
 .rfl
theorem KP {lo hi st:Int}(h:0<st)(h0:0<=lo)(h1:hi<=1000000):xE lo hi st<=1000000:=by
 unfold xE;split
 .have:=b8 (b:=st) (show 0<=hi-lo-1 by omega);omega
 .omega
section
theorem CQ {lo st:Int}{n:Nat}{g:TG}{tb:TS}{D:Ends}{σ:St}{H:Hp}(Pv:Nat->St->Hp->Prop)(h0:Pv 0 σ H)
  (hs:∀i σ H,i<n->Pv i σ H->g (.int (lo+i*st)) σ H fun n8 H2=>tb { D with nx:=Pv (i+1),ct:=Pv (i+1),bk:=D.nx } n8 H2)(hd:∀σ H,Pv n σ H->D.nx σ H) :
  ∃W:Nat->Nat->St->Hp->Prop,(∃m,W 0 m σ H)/\∀i m σ H,W i m σ H ->
   ((GY lo st n).stop i H/\D.nx σ H)\/((GY lo st n).go i H/\∃N:St->Hp->Prop,(∀mw H',N mw H'->∃m',m'<m/\W (i+1) m' mw H')/\∀x H',(GY lo st n).yld i H x H'->g x σ H' fun n8 H2=>tb { D with nx:=N,ct:=N,bk:=D.nx } n8 H2):=by
 refine⟨fun i m σ H=>m=n-i/\i<=n/\Pv i σ H,⟨n,ke,Nat.zero_le _,h0⟩,?_⟩;rintro i m σ H ⟨rfl,hi,p⟩
 by_cases qy:i<n
 .refine .inr ⟨qy,Pv (i+1),fun mw H' p'=>⟨n-(i+1),kg,Z,qy,p'⟩,fun x H' y=>?_⟩;obtain⟨e,y⟩:=y;subst e y;exact hs i σ _ qy p
 .have e:i=n:=kg;subst e;exact .inl ⟨aH _,hd σ H p⟩
end
theorem Bu (p:Int):∀l:List Int,QX (.int p) (l.map zaa)=decide (p∈l)
 | []=>by simp[QX]
 | a::r=>by
  have ih:=Bu p r;unfold QX at ih ⊢;rw[c5,gQ,ih];show ((a == p) || decide (p∈r))=_
  by_cases h:a=p
  .simp[h]
  .have h':¬p=a:=fun e=>h e.symm;simp[h,h']
theorem zh:∀l:List Int,(l.map zaa).all uz=true
 | []=>rfl
 | a::r=>by rw[c5,iT,zh r];rfl
def An (H:Hp)(r:Addr)(ts:List (Int×Int×Int)):Prop:=∃as:List Addr,H r=some (.lst (as.map zac))/\Paired (fun a (x:Int×Int×Int)=>H a=some (.tup [.int x.1,.int x.2.1,.int x.2.2])) as ts
theorem An.same {H H':Hp}{r:Addr}{ts:List (Int×Int×Int)}(h:An H r ts)(s:kD H H'):An H' r ts:=let ⟨as,h1,h2⟩:=h;⟨as,s _ _ h1,Paired.yp h2 fun d x e=>s _ _ e⟩
open PySem PySem.Spec PyProof.Rows PySem.SeqAt
section
variable {X:Cx}
abbrev uH (i:Int):Int:=((Builtin.Int.intBits i:Nat):Int)
def QW:V->List V->Hp->VK->Prop:=fun x vs H Q=>∃i:Int,x=.int i/\vs=[]/\Q (.int (uH i)) H
theorem ux:ZR X "int.bit_length" QW:=by
 intro ä s σ H x vs v us Q I rx rv h;obtain⟨i,rfl,rfl,q⟩:=h;cases rv;obtain⟨t,rfl⟩:=rx;exact call_int_bit_length ⟨.int (uH i),H,I.tok _,⟨_,Z⟩,q⟩
theorem Bi {i:Int}(h:¬uH i > 0):i=0:=by
 unfold uH Builtin.Int.intBits at h
 by_cases e:i=0
 .exact e
 .rw[ak (by simpa using e)] at h;omega
theorem Ko {i:Int}(h:uH i > 0):¬i=0:=by
 rintro rfl;exact absurd h O
theorem tG:∀{l:List Value}{n:Nat}{F:Nat->V},l.length=n->(∀(j:Nat) v,l[j]?=some v->RelV (F j) v)->Vals ((List.range n).map F) l
 | [],n,F,hl,_=>by cases hl;exact .nil
 | v::l,n,F,hl,h=>by
  cases hl;have e:(List.range (v::l).length).map F=F 0::(List.range l.length).map (fun j=>F (j+1)):=by
   rw[bE,List.range_succ_eq_map,c5,i5];rfl
  rw[e];exact .cons (h 0 v Z) (tG Z fun j u hj=>h (j+1) u hj)
def Cd (lo st:Int)(n:Nat):List Int:=(List.range n).map fun (i:Nat)=>lo+(i:Int)*st
def WO (ta:TA):TE:=fun σ H Q=>ta σ H fun vs H1=>∃i j k:Int,vs=[.int i,.int j,.int k]/\(0<=i/\i<=1000000/\0<=j/\j<=1000000/\0<k/\k<=1000000)/\∀l,H1 l=none->Q (.ref l) (upd H1 l (.lst ((Cd i k (xE i j k)).map zaa)))
theorem Jq {a b c:Expr}{ta:TA}{p p2 pos Gn:Pos}(hcm:X.calm=true)(Sf:Gl X "list")(Yy:X.mg "list"=none)(hg:Gl X "range")(hm:X.mg "range"=none)(ha:PA X [a,b,c] ta)
  (he:starEach [a,b,c] X.env=(false,eval a X.env)::starEach [b,c] X.env:=by rfl)(sY:(backTo Gn (starEach [b,c] X.env)).any (·.1)=false:=by rfl)
  (JQ:starEach [.Call (.Name "range" p2) [a,b,c] [] Gn] X.env=(false,eval (.Call (.Name "range" p2) [a,b,c] [] Gn) X.env)::starEach [] X.env:=by rfl) :
  PE X (.Call (.Name "list" p) [.Call (.Name "range" p2) [a,b,c] [] Gn] [] pos) (WO ta):=by
 intro ä s σ H Q I h;refine fv (qG I Sf Yy oY ?_);refine cF ?_ JQ Z;rw[JQ];show wpAny _ _ (spliced ((false,eval (.Call (.Name "range" p2) [a,b,c] [] Gn) X.env)::backTo pos (starEach [] X.env))) _ _ s
 refine Calls.spliced_cons ?_;refine Call_ (qG I hg hm boot_range (cF (nK (ha Gn ä s σ H _ I h) fun us s1 ⟨vs,H1,I1,r1,q1⟩=>?_) he sY));obtain⟨i,j,k,e,⟨q1,q2,q3,q4,q5,q6⟩,q⟩:=q1;subst e;cases r1 with
 | cons r rr =>
  cases rr with
  | cons r' rr =>
   cases rr with
   | cons T2 rr =>
    cases rr;obtain⟨t,rfl⟩:=r;obtain⟨t',rfl⟩:=r';obtain⟨Ps,rfl⟩:=T2;refine call_range_3 kg ?_ (.inl (i6 kg));have c3:=KP (lo:=i) q5 q1 q4;have sm:Builtin.Range.small i j k=true:=by
     unfold Builtin.Range.small;rw[Mp q5];simp only[Builtin.Range.rangeFitsLong,Bool.and_eq_true,Bool.or_eq_true,decide_eq_true_eq,beq_iff_eq,q5,if_true,gt_iff_lt];omega
    have I2:Inv X ä σ H1 { s1 with heap:=s1.heap.push { cls:=.type "range",data:=.fields #[.int i t,.int j t',.int k Ps] },toks:=s1.toks }:=I1.kept fun b o e=>aM _ e;refine Calls.spliced_nil ?_;refine call_list_range (n:=xE i j k) (I2.ok.hd hcm) (j4 ..) sm (Mp q5) kg fun h' tk Si c' kp e items=>?_;have vals:Vals ((Cd i k (xE i j k)).map zaa) Si.toList:=by
     unfold Cd;rw[i5];refine tG (by rw[Array.length_toList];exact items.1) fun m v hm=>?_;have:=items.2 m v (by rw[<-Array.getElem?_toList];exact hm);obtain⟨t,rfl⟩:=this;exact⟨t,Z⟩
    have hz:((Cd i k (xE i j k)).map zaa).length<=sizeLine:=by
     unfold Cd;rw[List.length_map,List.length_map,List.length_range];exact Nat.le_trans c3 O
    refine⟨.ref _,_,I2.laid (t':=tk) kp (aH _) (show nE X.prog X.w _ h' _ (.lst ((Cd i k (xE i j k)).map zaa)) from ⟨hz,Si.toList,c',vals,by simpa using e⟩),Z,q _ (I2.hok.fresh (Nat.le_refl _))⟩
end
section
variable {κ:Type} [DecidableEq κ]
def FG (kvs:List (κ×V))(k:κ):Option V:=(kvs.find? fun kv=>decide (kv.1=k)).map (·.2)
def putK (kvs:List (κ×V))(k:κ)(v:V):List (κ×V) :=
 if (kvs.any fun kv=>decide (kv.1=k))=true then kvs.map (fun kv=>if kv.1=k then (kv.1,v) else kv) else kvs++[(k,v)]
theorem v8.getD {o:Option V}{u:Option Value}{d:V}{d':Value}(r:v8 o u)(rd:RelV d d'):RelV (o.getD d) (u.getD d'):=by
 cases o with
 | none=>cases u with
  | none=>exact rd
  | some _=>exact(show eC from r).elim
 | some _=>cases u with
  | none=>exact(show eC from r).elim
  | some _=>exact r
theorem KV.any {kvs:List (κ×V)}{vs:List (κ×Value)}(r:KV kvs vs)(k:κ):(kvs.any fun kv=>decide (kv.1=k))=vs.any fun kv=>decide (kv.1=k):=by
 unfold KV at r
 induction r with
 | nil=>rfl
 | cons h t ih=>rw[gQ,gQ,ih,h.1]
theorem KV.length {kvs:List (κ×V)}{vs:List (κ×Value)}(r:KV kvs vs):kvs.length=vs.length:=fJ r
end
abbrev KT (H:Hp):List (List Key×V)->List (List Key×Addr×Value)->Prop:=Paired fun p q=>p.1=q.1/\H q.2.1=some (.tup (p.1.map kV))/\RelV p.2 q.2.2
theorem KT.keeps {H H':Hp}{kvs:List (List Key×V)}{xs:List (List Key×Addr×Value)}(r:KT H kvs xs)(ht:∀b ys,H b=some (.tup ys)->H' b=some (.tup ys)):KT H' kvs xs :=
 Paired.yp r fun _ _ z=>⟨z.1,ht _ _ z.2.1,z.2.2⟩
def yj (H:Hp)(a:Addr)(y:V)(r:Option V):Prop :=
 (∃kvs k,Rd H a (.dK kvs)/\y=kV k/\r=FG kvs k)\/∃kvs k b,Rd H a (.dT kvs)/\y=.ref b/\H b=some (.tup (k.map kV))/\r=FG kvs k
def yA (H:Hp)(a:Addr)(y v:V)(H':Hp):Prop :=
 (∃kvs k,H a=some (.dK kvs)/\y=kV k/\kvs.length<sizeLine/\H'=upd H a (.dK (putK kvs k v))) \/
 ∃kvs k b,H a=some (.dT kvs)/\y=.ref b/\H b=some (.tup (k.map kV))/\kvs.length<sizeLine/\H'=upd H a (.dT (putK kvs k v))
theorem yj.k {H:Hp}{a:Addr}{kvs:List (Key×V)}{k:Key}(e:H a=some (.dK kvs)):yj H a (kV k) (FG kvs k):=.inl ⟨kvs,k,.inl e,Z,Z⟩
theorem yj.t {H:Hp}{a b:Addr}{kvs:List (List Key×V)}{k:List Key}(e:H a=some (.dT kvs))(eb:H b=some (.tup (k.map kV))):yj H a (.ref b) (FG kvs k):=.inr ⟨kvs,k,b,.inl e,Z,eb,Z⟩
theorem yA.k {H:Hp}{a:Addr}{kvs:List (Key×V)}{k:Key}{v:V}(e:H a=some (.dK kvs))(hl:kvs.length<sizeLine):yA H a (kV k) v (upd H a (.dK (putK kvs k v))):=.inl ⟨kvs,k,e,Z,hl,Z⟩
theorem yA.t {H:Hp}{a b:Addr}{kvs:List (List Key×V)}{k:List Key}{v:V}(e:H a=some (.dT kvs))(eb:H b=some (.tup (k.map kV)))(hl:kvs.length<sizeLine) :
  yA H a (.ref b) v (upd H a (.dT (putK kvs k v))):=.inr ⟨kvs,k,b,e,Z,eb,hl,Z⟩
section
variable {X:Cx}{ä:List (Addr×Obj)}{σ:St}{H:Hp}{s:Shared}
theorem Inv.big (I:Inv X ä σ H s):sysModules<s.heap.objs.size:=by
 have h:mainGlobals<s.heap.objs.size:=(I.mod.glob.keeps I.bk).lt;exact i7 O h
end
structure M1 (X:Cx)(o:Expr)(m:Str)(apos:Pos)(e:Expr)(cpos:Pos):Prop where
 base:attributeBase o m X.env (eval o X.env)=eval o X.env
 Co:((backTo cpos (starEach [e] X.env)).all (fun x=>!x.1) && (backToKw cpos (keywordEach [] X.env)).all (fun x=>x.1.isSome)
  && decide (([e]:List Expr).length+([]:List Keyword).length+(if ([]:List Keyword).isEmpty then 0 else 1)<30))=true
 line:(apos.endLine == cpos.line)=true
 trees:backTo cpos (starEach [e] X.env)=[(false,eval e X.env)]
structure M2 (X:Cx)(o:Expr)(m:Str)(apos:Pos)(e f:Expr)(cpos:Pos):Prop where
 base:attributeBase o m X.env (eval o X.env)=eval o X.env
 Co:((backTo cpos (starEach [e,f] X.env)).all (fun x=>!x.1) && (backToKw cpos (keywordEach [] X.env)).all (fun x=>x.1.isSome)
  && decide (([e,f]:List Expr).length+([]:List Keyword).length+(if ([]:List Keyword).isEmpty then 0 else 1)<30))=true
 line:(apos.endLine == cpos.line)=true
 trees:backTo cpos (starEach [e,f] X.env)=[(false,eval e X.env),(false,eval f X.env)]
abbrev kI (i:Int):Key:=.inl i
abbrev k2 (p h:Int):List Key:=[.inl p,.inl h]
theorem yj.p {H:Hp}{a b:Addr}{kvs:List (List Key×V)}{p h:Int}(e:H a=some (.dT kvs))(eb:H b=some (.tup [.int p,.int h])):yj H a (.ref b) (FG kvs (k2 p h)):=yj.t (k:=k2 p h) e eb
theorem yA.p {H:Hp}{a b:Addr}{kvs:List (List Key×V)}{p h:Int}{v:V}(e:H a=some (.dT kvs))(eb:H b=some (.tup [.int p,.int h]))(hl:kvs.length<sizeLine):yA H a (.ref b) v (upd H a (.dT (putK kvs (k2 p h) v))):=yA.t (k:=k2 p h) e eb hl
theorem yj.i {H:Hp}{a:Addr}{kvs:List (Key×V)}{i:Int}(e:H a=some (.dK kvs)):yj H a (.int i) (FG kvs (kI i)):=yj.k (k:=kI i) e
theorem yA.i {H:Hp}{a:Addr}{kvs:List (Key×V)}{i:Int}{v:V}(e:H a=some (.dK kvs))(hl:kvs.length<sizeLine):yA H a (.int i) v (upd H a (.dK (putK kvs (kI i) v))):=yA.k (k:=kI i) e hl
theorem EL:∀{bs:List Bool}{â:List Value},Vals (bs.map zbv) â->â=bs.map Value.bool
 | [],_,.nil=>rfl
 | b::r,_,.cons e rs=>by
  have e':_=Value.bool b:=e;rw[c5,<-EL rs,<-e']
theorem Dw (bs:List Bool):((List.range bs.length).all fun i=>(bs[i]?).getD true)=bs.all id:=by
 rw[fe,dL,dL];constructor
 .intro h b hb;obtain⟨i,hi,e⟩:=List.getElem_of_mem hb;have:=h i (eD.mpr hi);simp only[List.getElem?_eq_getElem hi,Option.getD_some,e] at this;exact this
 .intro h i hi;have OK:=eD.mp hi;simp only[List.getElem?_eq_getElem OK,Option.getD_some];exact h _ (cx OK)
theorem KY {s:Shared}{h':Heap}{o:Obj}(hk:∀b x,b∉[s.heap.objs.size]->(s.heap.push o).get? b=some x->h'.get? b=some x):∀b x,s.heap.get? b=some x->h'.get? b=some x :=
 fun b x e=>hk b x (fun hm=>by rw[bF.mp hm] at e;exact dM _ (bB e)) (aM _ e)
section
variable {X:Cx}
theorem sP (hc:X.calm=true):qh X (.builtin "all") (fun xs H Q=>∃(a:Addr)(bs:List Bool),xs=[.ref a]/\kR X.K H a (bs.map zbv)/\Q (.bl (bs.all id)) H):=by
 intro ä s σ H xs us Q I r h;obtain⟨a,bs,rfl,hl,q⟩:=h;obtain⟨u,rfl,ru⟩:=vals1 r;cases ru;obtain⟨â,rv,pl,_⟩:=I.list hl;have ei:=EL rv;subst ei;have hL:=pl.isList;have qy:a<s.heap.objs.size:=by obtain⟨_,e,_⟩:=hL;exact Heap.lt_size e
 refine call_all_walk (wpAny_pyIter_list hL ?_);refine⟨s.heap.objs.size,[s.heap.objs.size,a],[s.heap.objs.size],(bs.map Value.bool).toArray.size,_,_,fun i=>(bs[i]?).getD true,Z,Walks.list (A:=X.A.in1) (I.ok.hd hc) _ a (cy qy) (bs.map Value.bool).toArray,
  ⟨⟨_,bV _ Z,Z,Z⟩,hL.push _⟩,fun i v s' Q' E' hP hQ=>?_,fun h' tk hk=>?_⟩
 .have Sj:(bs.map Value.bool)[i]?=some v:=by simpa using hP
  rw[af] at Sj;cases e:bs[i]? with
  | none=>rw[e] at Sj;cases Sj
  | some b =>
   rw[e] at Sj;cases Sj;simp only[e,Option.getD_some] at hQ;exact fR hQ
 .have e:((List.range (bs.map Value.bool).toArray.size).all fun i=>(bs[i]?).getD true)=bs.all id:=by
   rw[cB,aa];exact Dw bs
  rw[e];exact⟨.bl _,H,I.kept (t':=tk) (KY hk),Z,q⟩
end
theorem rep1 (m:Nat):(List.replicate ((m:Nat):Int).toNat [zaa 1]).flatten=(List.replicate m (1:Int)).map zaa:=by
 rw[ae]
 induction m with
 | zero=>rfl
 | succ m ih=>rw[cH,eL,ih,cH,c5];rfl
theorem qM {c A B:Prop} [Decidable c] (h:c)(a:A):if c then A else B:=by rw[aB h];exact a
theorem nq {c A B:Prop} [Decidable c] (h:¬c)(b:B):if c then A else B:=by rw[ak h];exact b
theorem wA {K:zdg}{a b:Addr}{xs ys:List V}{g:TG}{tb:TS}{D:Ends}{σ:St}{H:Hp}(ì:xs.length=ys.length)(Pv:Nat->St->Hp->Prop)(h0:Pv 0 σ H)(hl:∀i σ H,i<=xs.length->Pv i σ H->kR K H a xs/\kR K H b ys)
  (hs:∀i x y σ H p,xs[i]?=some x->ys[i]?=some y->Pv i σ H->H p=none->g (.ref p) σ (upd H p (.tup [x,y])) fun n8 H2=>tb { D with nx:=Pv (i+1),ct:=Pv (i+1),bk:=D.nx } n8 H2)(hd:∀σ H,Pv xs.length σ H->D.nx σ H) :
  ∃W:Nat->Nat->St->Hp->Prop,(∃m,W 0 m σ H)/\∀i m σ H,W i m σ H ->
   ((L8 K a b).stop i H/\D.nx σ H)\/((L8 K a b).go i H/\∃N:St->Hp->Prop,(∀mw H',N mw H'->∃m',m'<m/\W (i+1) m' mw H')/\∀x H',(L8 K a b).yld i H x H'->g x σ H' fun n8 H2=>tb { D with nx:=N,ct:=N,bk:=D.nx } n8 H2):=by
 refine⟨fun i m σ H=>m=xs.length-i/\i<=xs.length/\Pv i σ H,⟨xs.length,ke,Nat.zero_le _,h0⟩,?_⟩;rintro i m σ H ⟨rfl,hi,p⟩;obtain⟨q1,q2⟩:=hl i σ H hi p
 by_cases qy:i<xs.length
 .refine .inr ⟨⟨xs,ys,xs[i],ys[i]'J,q1,q2,by simp[qy],by simp[show i<ys.length by lia]⟩,Pv (i+1),fun mw H' p'=>⟨xs.length-(i+1),J,Z,qy,p'⟩,fun x H' y=>?_⟩;obtain⟨r,y1,y2,rfl,hr,hy1,hy2,rfl⟩:=y;exact hs i y1 y2 σ _ r (hy1 xs q1) (hy2 ys q2) p hr
 .have e:i=xs.length:=J;subst e;exact .inl ⟨⟨xs,ys,q1,q2,.inl (aH _)⟩,hd σ H p⟩
theorem A7 (ns:List Int)(k:Nat):ud (ns.map zaa) (some (k:Int)) none=(ns.drop k).map zaa:=by
 unfold ud;rw[HT.zP,HT.Hn,aa,<-List.map_drop,<-List.map_take];congr 1
 by_cases h:k<=ns.length
 .rw[iK h,i4 (by rw[cI];lia)]
 .rw[Nat.min_eq_right J,i8 (aH _),i8 J];simp
theorem Paired.Cw {α β:Type}{F:α->β->Prop}:∀{a c:List α}{b d:List β},Paired F a b->Paired F c d->Paired F (a++c) (b++d)
 | _,_,_,_,.nil,h=>h
 | _,_,_,_,.cons h t,g=>.cons h (Paired.Cw t g)
abbrev d3 (t:Int×Int×Int):PyData:=.tuple [.int t.1,.int t.2.1,.int t.2.2]
variable {as:List Addr}{è:List (List Int)}
theorem Ir {X:Cx}{K:zdg}(h:X.K=K):Vu X (QQ K):=by subst h;exact wy
theorem RC (x y z w a b c d:Int):same (.tuple [.int x,.int y,.int z,.int w]) (.tuple [.int a,.int b,.int c,.int d])=decide (x=a/\y=b/\z=c/\w=d):=by
 simp only[same,PySem.Spec.sameAll]
 by_cases h1:x=a<;>by_cases h2:y=b<;>by_cases h3:z=c<;>by_cases h4:w=d<;>simp[h1,h2,h3,h4]
theorem VU {K:zdg}{H:Hp}{r s:Addr}{x y z w a b c d:Int}{Q:VK}(h1:H r=some (.tup [.int x,.int y,.int z,.int w]))(h2:H s=some (.tup [.int a,.int b,.int c,.int d]))(q:Q (.bl (!decide (x=a/\y=b/\z=c/\w=d))) H):NW K (.ref r) (.ref s) H Q :=
 ⟨_,_,.tup (lX.of h1) (.cons (.int _) (.cons (.int _) (.cons (.int _) (.cons (.int _) .nil)))),.tup (lX.of h2) (.cons (.int _) (.cons (.int _) (.cons (.int _) (.cons (.int _) .nil)))),Z,Z,by simp[noMix,noMixAll],by rw[RC];exact q⟩
theorem qC {K:zdg}{n i j k:Nat}(h:n<=i)(h':n<=j)(h'':n<=k):sI n (Ll K 3 (vH (mM i) (vH (mM j) (vH (mM k) Lk)))):=by
 rintro x σ H Q ⟨a,xs,rfl,hq,hl,v,r,rfl,v',r',rfl,v'',T2,rfl,rfl,q⟩;exact⟨a,_,Z,hq,hl,v,_,Z,v',_,Z,v'',_,Z,Z,⟨ke,fun m hk=>by rw[List.getElem?_set_ne J,List.getElem?_set_ne J,List.getElem?_set_ne J]⟩,q⟩
structure Mn (K:zdg)(C:Addr)(m q:Str)(st:Stmt)(ps:List Str):Prop where
 ex:∃(f:Addr)(fd:FuncData),Ez K m q st f fd/\Binds K fd ps []/\Meth K C m f
structure Mf (P:Program)(w:World)(K:zdg)(mg:Str->Option Value)(base:Heap)(k:Nat)(C:Addr)(m:Str)(ps:List Str)(sp:Sp):Prop where
 ex:∃(f:Addr)(fd:FuncData),pK P w K mg base Dl k f fd ps sp/\Binds K fd ps []/\Meth K C m f
structure Kn (K:zdg)(mg:Str->Option Value)(C:Addr)(x q:Str)(st:Stmt)(ps:List Str):Prop where
 ex:∃(f:Addr)(fd:FuncData),Ez K "__init__" q st f fd/\Binds K fd ps []/\Mk K C f/\mg x=some (.ref C)
structure Kf (P:Program)(w:World)(K:zdg)(mg:Str->Option Value)(base:Heap)(k:Nat)(C:Addr)(x:Str)(ps:List Str)(sp:Sp):Prop where
 ex:∃(f:Addr)(fd:FuncData),pK P w K mg base Dl k f fd ps sp/\Binds K fd ps []/\Mk K C f/\mg x=some (.ref C)
theorem Mn.ok {P:Program}{w:World}{K:zdg}{mg:Str->Option Value}{base:Heap}{C:Addr}{m q:Str}{st:Stmt}{N ps:List Str}{k:Nat}{sp:Sp}(D:Mn K C m q st ps)(S:kL N ps (kG st))(len:∀vs H Q E,sp vs H Q E->vs.length=ps.length)
  (hbody:∀(f:Addr)(cdv:Value)(A:Around)(outer:List Env)(s:Shared)(H:Hp)(vs:List V)(Q:VK)(E:XK),nZ k (A.deeper (envOfC q (kG st) s.heap.objs.size f cdv))->sp vs H Q E ->
   ∃t,yu (qX Dl P w K mg base N q (kG st) f cdv A outer s H E).Fc (mH st) t/\t { nx:=fun _ H'=>Q .non H',rt:=Q } (start N vs) H):Mf P w K mg base (k+1) C m ps sp:=by
 obtain⟨f,fd,F,b,mt⟩:=D.ex;exact⟨f,fd,F.ok S len (fun cdv A outer s H vs Q E hr h=>hbody f cdv A outer s H vs Q E hr h),b,mt⟩
theorem Kn.ok {P:Program}{w:World}{K:zdg}{mg:Str->Option Value}{base:Heap}{C:Addr}{x q:Str}{st:Stmt}{N ps:List Str}{k:Nat}{sp:Sp}(D:Kn K mg C x q st ps)(S:kL N ps (kG st))(len:∀vs H Q E,sp vs H Q E->vs.length=ps.length)
  (hbody:∀(f:Addr)(cdv:Value)(A:Around)(outer:List Env)(s:Shared)(H:Hp)(vs:List V)(Q:VK)(E:XK),nZ k (A.deeper (envOfC q (kG st) s.heap.objs.size f cdv))->sp vs H Q E ->
   ∃t,yu (qX Dl P w K mg base N q (kG st) f cdv A outer s H E).Fc (mH st) t/\t { nx:=fun _ H'=>Q .non H',rt:=Q } (start N vs) H):Kf P w K mg base (k+1) C x ps sp:=by
 obtain⟨f,fd,F,b,mt⟩:=D.ex;exact⟨f,fd,F.ok S len (fun cdv A outer s H vs Q E hr h=>hbody f cdv A outer s H vs Q E hr h),b,mt⟩
section
variable {X:Cx}{k:Nat}{C:Addr}{x m:Str}{ps:List Str}{sp:Sp}{e o:Expr}{es:List Expr}{ta:TE}{t:TA}{p pos apos:Pos}
theorem wC {pl:Sem Bool}(he:PE X o ta)(c:Gp X.K C)(D:Mf X.prog X.w X.K X.mg X.base k C m ps sp)(hr:nZ k X.A)(ha:PA X (e::es) t)
  (ub:starEach (e::es) X.env=(false,eval e X.env)::starEach es X.env:=by rfl)(sY:(backTo pos (starEach es X.env)).any (·.1)=false:=by rfl)
  (ht:eval (.Call (.Attribute o m apos) (e::es) [] pos) X.env=(do
   let ov <-eval o X.env
   standAt apos.atName
   let (f,first) <-holding [ov] (getMethod ov m pl)
   callWith pos f first (backTo pos (starEach (e::es) X.env)) (backToKw pos (keywordEach [] X.env))):=by rfl) :
  PE X (.Call (.Attribute o m apos) (e::es) [] pos) (Ma C m sp [] E0 ta t):=by
 obtain⟨f,fd,F,hb,hm⟩:=D.ex;exact Kr (pl:=pl) he c hm F hr hb .nil Ht ha ub sY ht
theorem N0 (D:Kf X.prog X.w X.K X.mg X.base k C x ps sp)(hr:nZ (k+1) X.A)(hg:Gl X x)(ha:PA X (e::es) t)(yE:(x == ("__debug__":Str))=false:=by decide)
  (he:starEach (e::es) X.env=(false,eval e X.env)::starEach es X.env:=by rfl)(sY:(backTo pos (starEach es X.env)).any (·.1)=false:=by rfl) :
  PE X (.Call (.Name x p) (e::es) [] pos) (L5 C sp [] E0 t):=by
 obtain⟨f,fd,F,hb,M,hm⟩:=D.ex;exact Ls M F hr hg hm hb .nil Ht ha yE he sY
end
def mL (H:Hp)(r:Addr)(è:List (List Int)):Prop:=∃as:List Addr,H r=some (.lst (as.map zac))/\Paired (fun a (x:List Int)=>H a=some (.lst (x.map zaa))) as è
theorem lZ {H H':Hp}(sm:kD H H')(h:Paired (fun a (x:List Int)=>H a=some (.lst (x.map zaa))) as è):Paired (fun a (x:List Int)=>H' a=some (.lst (x.map zaa))) as è:=by
 induction h with
 | nil=>exact .nil
 | cons a _ ih=>exact .cons (sm _ _ a) ih
theorem mL.same {H H':Hp}(sm:kD H H'){r:Addr}(h:mL H r è):mL H' r è :=
 let ⟨as,h1,h2⟩:=h;⟨as,sm _ _ h1,lZ sm h2⟩
theorem kQ {α β:Type}{F:α->β->Prop}:∀{a:List α}{b:List β},Paired F a b->a.length=b.length
 | _,_,.nil=>rfl
 | _,_,.cons _ t=>cU (· + 1) (kQ t)
theorem nF {H:Hp}(h:Paired (fun a (x:List Int)=>H a=some (.lst (x.map zaa))) as è){i:Nat}{x:V}(e:(as.map zac)[i]?=some x):∃(a:Addr)(row:List Int),x=.ref a/\as[i]?=some a/\è[i]?=some row/\H a=some (.lst (row.map zaa)):=by
 obtain⟨a,rfl,ha⟩:=pI e;obtain⟨row,hr,hh⟩:=mj h ha;exact⟨a,row,Z,ha,hr,hh⟩
theorem wJ {H:Hp}(h:Paired (fun a (x:List Int)=>H a=some (.lst (x.map zaa))) as è){i:Nat}{row:List Int}(e:è[i]?=some row):∃a:Addr,m9 (as.map zac) ((i:Nat):Int)=some (.ref a)/\H a=some (.lst (row.map zaa)):=by
 have l:=kQ h;have il:i<è.length:=(aF.mp e).1;have ha:as[i]?=some (as[i]'J):=az J;obtain⟨row',hr,hh⟩:=mj h ha;rw[e] at hr;cases hr;exact⟨_,m8 (by rw[af,ha];rfl),hh⟩
theorem wQ {α β:Type}{F:α->β->Prop}:∀{a:List α}{b:List β}{x:α}{y:β}(c:Nat),Paired F a b->F x y->Paired F (a.set c x) (b.set c y)
 | _,_,_,_,_,.nil,_=>.nil
 | _,_,_,_,0,.cons _ t,h=>.cons h t
 | _,_,_,_,c+1,.cons q t,h=>.cons q (wQ c t h)
theorem mL.put {H:Hp}{D a:Addr}{l:List Int}{c:Nat}(hD:H D=some (.lst (as.map zac)))(pa:Paired (fun a (x:List Int)=>H a=some (.lst (x.map zaa))) as è)(ne:as≠[])(ha:H a=some (.lst (l.map zaa))) :
  mL (upd H D (.lst ((as.map zac).set c (.ref a)))) D (è.set c l):=by
 have nD:∀(b:Addr)(x:List Int),H b=some (.lst (x.map zaa))->b≠D:=fun b x hb=>oB hb hD fun z=>by
  injection z with z;cases as with
  | nil=>exact ne Z
  | cons a0 T3=>cases x with
   | nil=>cases z
   | cons y ys=>injection z with z1;cases z1
 have old:Paired (fun a (x:List Int)=>upd H D (.lst ((as.map zac).set c (.ref a))) a=some (.lst (x.map zaa))) as è->iG:=fun _=>trivial;have go:∀{uO:List Addr}{xY:List (List Int)}{o:HO},Paired (fun a (x:List Int)=>H a=some (.lst (x.map zaa))) uO xY->Paired (fun a (x:List Int)=>upd H D o a=some (.lst (x.map zaa))) uO xY:=fun {uO xY o} p=>by
  induction p with
  | nil=>exact .nil
  | cons h _ ih=>exact .cons ((kO (nD _ _ h)).trans h) ih
 refine⟨as.set c a,by rw[ko,List.map_set],wQ c (go pa) ((kO (nD _ _ ha)).trans ha)⟩
section
variable {xs:List V}
variable {K:zdg}{a b:Addr}{g:TG}{te:TE}{mw:St}{H:Hp}{Q:VK}
theorem mP (zs:List Int)(ì:zs.length=xs.length)(hz:xs.length<=20000)(hS:kR K H a xs)
 (hs:∀(i:Nat) x H2,xs[i]?=some x->kD H H2->∀R:VK,(∀H4 z,kD H2 H4->zs[i]?=some z->R (.int z) H4)->g x mw H2 fun n8 H3=>te n8 H3 R)
 (hd:∀D H2,kD H H2->H D=none->H2 D=some (.lst (zs.map zaa))->Q (.ref D) H2):oh (Lv K a) g yv te mw Q H:=by
  refine pV (K:=K) (xs:=xs) (fun i rs H2=>kD H H2/\rs=(zs.take i).map zaa) ⟨kD.refl H,ke⟩ (fun i rs H2 _ z=>z.1.seq hS)
    (fun i rs H2 hi z=>by rw[z.2];simp only[List.length_map,List.length_take];exact nQ J) ?_ ?_
  · rintro i x rs H2 hx ⟨sm,rfl⟩
    exact hs i x H2 hx sm (fun y H4=>kD H H4/\(zs.take i).map zaa++[y]=(zs.take (i+1)).map zaa) fun H4 z s4 ez=>⟨sm.trans s4,by rw[oq ez]⟩
  · rintro rs H2 ⟨sm,rfl⟩ D hD
    rw[oP ì];exact hd D _ (ku sm hD) (sm.free hD) ko
theorem qU {ys:List V}(zs:List Int)(OC:xs.length=ys.length)(ì:zs.length=xs.length)(hz:xs.length<=20000)(hS:kR K H a xs)(Yz:kR K H b ys)
 (hs:∀(i:Nat) x y H2 p,xs[i]?=some x->ys[i]?=some y->kD H H2->H2 p=none->∀R:VK,(∀H4 z,kD H2 H4->zs[i]?=some z->R (.int z) H4)->g (.ref p) mw (upd H2 p (.tup [x,y])) fun n8 H3=>te n8 H3 R)
 (hd:∀D H2,kD H H2->H D=none->H2 D=some (.lst (zs.map zaa))->Q (.ref D) H2):oh (L8 K a b) g yv te mw Q H:=by
  refine xQ (K:=K) (xs:=xs) (ys:=ys) OC (fun i rs H2=>kD H H2/\rs=(zs.take i).map zaa) ⟨kD.refl H,ke⟩ (fun i rs H2 _ z=>⟨z.1.seq hS,z.1.seq Yz⟩)
    (fun i rs H2 hi z=>by rw[z.2];simp only[List.length_map,List.length_take];exact nQ J) ?_ ?_
  · rintro i x y rs H2 p hx hy ⟨sm,rfl⟩ hp
    exact hs i x y H2 p hx hy sm hp (fun y H4=>kD H H4/\(zs.take i).map zaa++[y]=(zs.take (i+1)).map zaa) fun H4 z s4 ez=>⟨sm.trans s4,by rw[oq ez]⟩
  · rintro rs H2 ⟨sm,rfl⟩ D hD
    rw[oP ì];exact hd D _ (ku sm hD) (sm.free hD) ko
theorem Fe {ys:List V}(zs:List Bool)(OC:xs.length=ys.length)(ì:zs.length=xs.length)(hz:xs.length<=20000)(hS:kR K H a xs)(Yz:kR K H b ys)
 (hs:∀(i:Nat) x y H2 p,xs[i]?=some x->ys[i]?=some y->kD H H2->H2 p=none->∀R:VK,(∀H4 z,kD H2 H4->zs[i]?=some z->R (.bl z) H4)->g (.ref p) mw (upd H2 p (.tup [x,y])) fun n8 H3=>te n8 H3 R)
 (hd:∀D H2,kD H H2->H D=none->H2 D=some (.lst (zs.map zbv))->Q (.ref D) H2):oh (L8 K a b) g yv te mw Q H:=by
  refine xQ (K:=K) (xs:=xs) (ys:=ys) OC (fun i rs H2=>kD H H2/\rs=(zs.take i).map zbv) ⟨kD.refl H,ke⟩ (fun i rs H2 _ z=>⟨z.1.seq hS,z.1.seq Yz⟩)
    (fun i rs H2 hi z=>by rw[z.2];simp only[List.length_map,List.length_take];exact nQ J) ?_ ?_
  · rintro i x y rs H2 p hx hy ⟨sm,rfl⟩ hp
    exact hs i x y H2 p hx hy sm hp (fun y H4=>kD H H4/\(zs.take i).map zbv++[y]=(zs.take (i+1)).map zbv) fun H4 z s4 ez=>⟨sm.trans s4,by rw[df,ez,aS];rfl⟩
  · rintro rs H2 ⟨sm,rfl⟩ D hD
    have:(zs.take xs.length).map zbv=zs.map zbv:=by rw[<-ì,bY]
    rw[this];exact hd D _ (ku sm hD) (sm.free hD) ko
theorem GS (zs:List V)(ì:zs.length=xs.length)(hz:xs.length<=20000)(hS:kR K H a xs)
 (hs:∀(i:Nat) x H2,xs[i]?=some x->kD H H2->∀R:VK,(∀H4 z,kD H2 H4->zs[i]?=some z->R z H4)->g x mw H2 fun n8 H3=>te n8 H3 R)
 (hd:∀D H2,kD H H2->H D=none->H2 D=some (.lst zs)->Q (.ref D) H2):oh (Lv K a) g yv te mw Q H:=by
  refine pV (K:=K) (xs:=xs) (fun i rs H2=>kD H H2/\rs=zs.take i) ⟨kD.refl H,ke⟩ (fun i rs H2 _ z=>z.1.seq hS)
    (fun i rs H2 hi z=>by rw[z.2];simp only[List.length_take];exact nQ J) ?_ ?_
  · rintro i x rs H2 hx ⟨sm,rfl⟩
    exact hs i x H2 hx sm (fun y H4=>kD H H4/\zs.take i++[y]=zs.take (i+1)) fun H4 z s4 ez=>⟨sm.trans s4,by rw[df,ez];rfl⟩
  · rintro rs H2 ⟨sm,rfl⟩ D hD
    have:zs.take xs.length=zs:=by rw[<-ì,bY]
    rw[this];exact hd D _ (ku sm hD) (sm.free hD) ko
theorem p9 (zs:List (List Int))(ì:zs.length=xs.length)(hz:xs.length<=20000)(hS:kR K H a xs)
 (hs:∀(i:Nat) x H2,xs[i]?=some x->kD H H2->∀R:VK,(∀H4 c z,kD H2 H4->zs[i]?=some z->H4 c=some (.lst (z.map zaa))->R (.ref c) H4)->g x mw H2 fun n8 H3=>te n8 H3 R)
 (hd:∀D H2,kD H H2->H D=none->mL H2 D zs->Q (.ref D) H2):oh (Lv K a) g yv te mw Q H:=by
  refine pV (K:=K) (xs:=xs) (fun i rs H2=>kD H H2/\∃as:List Addr,rs=as.map zac/\Paired (fun a (x:List Int)=>H2 a=some (.lst (x.map zaa))) as (zs.take i)) ⟨kD.refl H,[],Z,.nil⟩ (fun i rs H2 _ z=>z.1.seq hS)
    (fun i rs H2 hi z=>by obtain⟨as,e,pa⟩:=z.2;rw[e,List.length_map,kQ pa,List.length_take];exact nQ J) ?_ ?_
  · rintro i x rs H2 hx ⟨sm,as,rfl,pa⟩
    exact hs i x H2 hx sm (fun y H4=>kD H H4/\∃uO:List Addr,as.map zac++[y]=uO.map zac/\Paired (fun a (x:List Int)=>H4 a=some (.lst (x.map zaa))) uO (zs.take (i+1))) fun H4 c z s4 ez hc=>⟨sm.trans s4,as++[c],by rw[aS];rfl,by
      rw[df,ez];exact L2.Paired.Cw (lZ s4 pa) (.cons hc .nil)⟩
  · rintro rs H2 ⟨sm,as,rfl,pa⟩ D hD
    have:zs.take xs.length=zs:=by rw[<-ì,bY]
    rw[this] at pa;exact hd D _ (ku sm hD) (sm.free hD) ⟨as,ko,lZ (ku (kD.refl _) hD) pa⟩
theorem HC (zs:List (List Int))(ì:zs.length=xs.length)(hz:xs.length<=20000)(hS:kR K H a xs)
 (hs:∀(i:Nat) x H2 p,xs[i]?=some x->kD H H2->H2 p=none->∀R:VK,(∀H4 c z,kD H2 H4->zs[i]?=some z->H4 c=some (.lst (z.map zaa))->R (.ref c) H4)->g (.ref p) mw (upd H2 p (.tup [.int i,x])) fun n8 H3=>te n8 H3 R)
 (hd:∀D H2,kD H H2->H D=none->mL H2 D zs->Q (.ref D) H2):oh (Nr K a) g yv te mw Q H:=by
  refine y3 (K:=K) (xs:=xs) (fun i rs H2=>kD H H2/\∃as:List Addr,rs=as.map zac/\Paired (fun a (x:List Int)=>H2 a=some (.lst (x.map zaa))) as (zs.take i)) ⟨kD.refl H,[],Z,.nil⟩ (fun i rs H2 _ z=>z.1.seq hS)
    (fun i rs H2 hi z=>by obtain⟨as,e,pa⟩:=z.2;rw[e,List.length_map,kQ pa,List.length_take];exact nQ J) ?_ ?_
  · rintro i x rs H2 p hx ⟨sm,as,rfl,pa⟩ hp
    exact hs i x H2 p hx sm hp (fun y H4=>kD H H4/\∃uO:List Addr,as.map zac++[y]=uO.map zac/\Paired (fun a (x:List Int)=>H4 a=some (.lst (x.map zaa))) uO (zs.take (i+1))) fun H4 c z s4 ez hc=>⟨sm.trans s4,as++[c],by rw[aS];rfl,by
      rw[df,ez];exact L2.Paired.Cw (lZ s4 pa) (.cons hc .nil)⟩
  · rintro rs H2 ⟨sm,as,rfl,pa⟩ D hD
    have:zs.take xs.length=zs:=by rw[<-ì,bY]
    rw[this] at pa;exact hd D _ (ku sm hD) (sm.free hD) ⟨as,ko,lZ (ku (kD.refl _) hD) pa⟩
theorem Ba {n:Nat}(zs:List (List Int))(ì:zs.length=n)(hz:n<=20000)
 (hs:∀(i:Nat) H2,i<n->kD H H2->∀R:VK,(∀H4 c z,kD H2 H4->zs[i]?=some z->H4 c=some (.lst (z.map zaa))->R (.ref c) H4)->g (.int i) mw H2 fun n8 H3=>te n8 H3 R)
 (hd:∀D H2,kD H H2->H D=none->mL H2 D zs->Q (.ref D) H2):oh (DF 0 n) g yv te mw Q H:=by
  refine qD (fun i rs H2=>kD H H2/\∃as:List Addr,rs=as.map zac/\Paired (fun a (x:List Int)=>H2 a=some (.lst (x.map zaa))) as (zs.take i)) ⟨kD.refl H,[],Z,.nil⟩
    (fun i rs H2 hi z=>by obtain⟨as,e,pa⟩:=z.2;rw[e,List.length_map,kQ pa,List.length_take];exact nQ J) ?_ ?_
  · rintro i rs H2 hi ⟨sm,as,rfl,pa⟩
    exact hs i H2 hi sm (fun y H4=>kD H H4/\∃uO:List Addr,as.map zac++[y]=uO.map zac/\Paired (fun a (x:List Int)=>H4 a=some (.lst (x.map zaa))) uO (zs.take (i+1))) fun H4 c z s4 ez hc=>⟨sm.trans s4,as++[c],by rw[aS];rfl,by
      rw[df,ez];exact L2.Paired.Cw (lZ s4 pa) (.cons hc .nil)⟩
  · rintro rs H2 ⟨sm,as,rfl,pa⟩ D hD
    have:zs.take n=zs:=by rw[<-ì,bY]
    rw[this] at pa;exact hd D _ (ku sm hD) (sm.free hD) ⟨as,ko,lZ (ku (kD.refl _) hD) pa⟩
end
theorem Bq {a b:Int}(h1:-1000000000000<=a)(h2:a<=1000000000000):IntMulOk a b:=IntMulOk.of_left (gF J J)
abbrev dP (t:Int×Int):PyData:=.tuple [.int t.1,.int t.2]
theorem Do {K:zdg}{H:Hp}:∀{as:List Addr}{ts:List (Int×Int)},Paired (fun a (x:Int×Int)=>H a=some (.tup [.int x.1,.int x.2])) as ts->BW K H (as.map zac) (ts.map dP)
 | _,_,.nil=>.nil
 | _,_,.cons h t=>.cons (.tup (lX.of h) (.cons (.int _) (.cons (.int _) .nil))) (Do t)
theorem Er:∀ts:List (Int×Int),PyData.canLayAll0 (ts.map dP)=true
 | []=>by simp[PyData.canLayAll0]
 | t::r=>by simp[PyData.canLayAll0,PyData.canLay0,Er r]
theorem D8:∀ts:List (Int×Int),PyData.depthAll (ts.map dP)<=2
 | []=>by simp[PyData.depthAll]
 | t::r=>by
  have:=D8 r;simp only[List.map_cons,PyData.depthAll,PyData.depth];lia
theorem EX (ts:List (Int×Int)):shaped (.list (ts.map dP))=true:=by
 have h1:=D8 ts;unfold shaped;rw[fL];exact⟨by simp only[PyData.canLay0];exact Er ts,decide_eq_true (by simp only[PyData.depth];lia)⟩
theorem D7:∀ts us:List (Int×Int),noMixAll (ts.map dP) (us.map dP)=true
 | [],[]=>by simp[noMixAll]
 | [],_::_=>by simp[noMixAll]
 | _::_,[]=>by simp[noMixAll]
 | t::r,u::q=>by simp[noMixAll,noMix,D7 r q]
theorem Ee:∀ts us:List (Int×Int),PySem.Spec.sameAll (ts.map dP) (us.map dP)=decide (ts=us)
 | [],[]=>by simp[PySem.Spec.sameAll]
 | [],_::_=>by simp[PySem.Spec.sameAll]
 | _::_,[]=>by simp[PySem.Spec.sameAll]
 | (a,b)::r,(c,d)::q=>by
  simp only[List.map_cons,PySem.Spec.sameAll,PySem.Spec.same,Ee r q]
  by_cases h1:a=c<;>by_cases h2:b=d<;>by_cases h3:r=q<;>simp[h1,h2,h3]
theorem KL {K:zdg}{H:Hp}{a b:Addr}{ts us:List (Int×Int)}{Q:VK}(h1:Hz H a ts)(h2:Hz H b us)(q:Q (.bl (!decide (ts=us))) H):NW K (.ref a) (.ref b) H Q:=by
 obtain⟨as,e1,p1⟩:=h1;obtain⟨bs,e2,p2⟩:=h2;exact⟨_,_,.lst (kR.of e1) (Do p1),.lst (kR.of e2) (Do p2),EX ts,EX us,by simp only[noMix];exact D7 ts us,by simp only[same];rw[Ee];exact q⟩
theorem tL {X:Cx}{K:zdg}(h:X.K=K):qh X (.type "list") (fun xs H Q=>∃p ys,xs=[.ref p]/\(kR K H p ys\/lX K H p ys)/\∀l,H l=none->Q (.ref l) (upd H l (.lst ys))):=by subst h;exact nY
section
variable {g:TG}{te:TE}{mw:St}{H:Hp}{Q:VK}
theorem Hk {lo:Int}{n:Nat}(zs:List Int)(ì:zs.length=n)(hz:n<=20000)
  (hs:∀(i:Nat) H2,i<n->kD H H2->∀R:VK,(∀H4 z,kD H2 H4->zs[i]?=some z->R (.int z) H4)->g (.int (lo+i)) mw H2 fun n8 H3=>te n8 H3 R)
  (hd:∀D H2,kD H H2->H D=none->H2 D=some (.lst (zs.map zaa))->Q (.ref D) H2):oh (DF lo n) g yv te mw Q H:=by
 refine xU (fun i rs H2=>kD H H2/\rs=(zs.take i).map zaa) ⟨kD.refl H,ke⟩
  (fun i rs H2 hi z=>by rw[z.2];simp only[List.length_map,List.length_take];exact nQ J) ?_ ?_
 .rintro i rs H2 hi ⟨sm,rfl⟩;exact hs i H2 hi sm (fun y H4=>kD H H4/\(zs.take i).map zaa++[y]=(zs.take (i+1)).map zaa) fun H4 z s4 ez=>⟨sm.trans s4,by rw[oq ez]⟩
 .rintro rs H2 ⟨sm,rfl⟩ D hD;rw[oP ì];exact hd D _ (ku sm hD) (sm.free hD) ko
end
section
variable {K:zdg}{x q m:Str}{st:Stmt}{f C:Addr}{T pm cd:Value}{h:Heap}{mg:Str->Option Value}{ps:List Str}
def BA (x q:Str)(st:Stmt)(ps:List Str):Prop:=∀(kV doc pm:Value)(an:Option Addr)(cdv ct:Value)(us:List Value),us.length=ps.length->bindArgs (PySem.W.fnOf x q (mZ st) (mH st) (kG st) .none kV doc pm an cdv ct) ⟨us,[]⟩=pure (ps.zip us)
theorem ZM (h:ps.length=1)(e:∀(kV doc pm:Value)(an:Option Addr)(cdv ct u0:Value),bindArgs (PySem.W.fnOf x q (mZ st) (mH st) (kG st) .none kV doc pm an cdv ct) ⟨[u0],[]⟩=pure (ps.zip [u0])):BA x q st ps:=fun _ _ _ _ _ _ us hl=>match us,hl.trans h with | [_],_=>e _ _ _ _ _ _ _
theorem ba2 (h:ps.length=2)(e:∀(kV doc pm:Value)(an:Option Addr)(cdv ct u0 u1:Value),bindArgs (PySem.W.fnOf x q (mZ st) (mH st) (kG st) .none kV doc pm an cdv ct) ⟨[u0,u1],[]⟩=pure (ps.zip [u0,u1])):BA x q st ps:=fun _ _ _ _ _ _ us hl=>match us,hl.trans h with | [_,_],_=>e _ _ _ _ _ _ _ _
theorem ba3 (h:ps.length=3)(e:∀(kV doc pm:Value)(an:Option Addr)(cdv ct u0 u1 u2:Value),bindArgs (PySem.W.fnOf x q (mZ st) (mH st) (kG st) .none kV doc pm an cdv ct) ⟨[u0,u1,u2],[]⟩=pure (ps.zip [u0,u1,u2])):BA x q st ps:=fun _ _ _ _ _ _ us hl=>match us,hl.trans h with | [_,_,_],_=>e _ _ _ _ _ _ _ _ _
theorem ba4 (h:ps.length=4)(e:∀(kV doc pm:Value)(an:Option Addr)(cdv ct u0 u1 u2 u3:Value),bindArgs (PySem.W.fnOf x q (mZ st) (mH st) (kG st) .none kV doc pm an cdv ct) ⟨[u0,u1,u2,u3],[]⟩=pure (ps.zip [u0,u1,u2,u3])):BA x q st ps:=fun _ _ _ _ _ _ us hl=>match us,hl.trans h with | [_,_,_,_],_=>e _ _ _ _ _ _ _ _ _ _
theorem ba5 (h:ps.length=5)(e:∀(kV doc pm:Value)(an:Option Addr)(cdv ct u0 u1 u2 u3 u4:Value),bindArgs (PySem.W.fnOf x q (mZ st) (mH st) (kG st) .none kV doc pm an cdv ct) ⟨[u0,u1,u2,u3,u4],[]⟩=pure (ps.zip [u0,u1,u2,u3,u4])):BA x q st ps:=fun _ _ _ _ _ _ us hl=>match us,hl.trans h with | [_,_,_,_,_],_=>e _ _ _ _ _ _ _ _ _ _ _
def Fa (K:zdg)(x:Str)(st:Stmt):Prop:=∃(f:Addr)(fd:FuncData),Ez K x x st f fd/\PySem.W.nsIn K mainGlobals x=some (some (.ref f))
theorem Fa.of (a:PySem.W.nsIn K mainGlobals x=some (some (.ref f)))(l:K.lookup f=some ⟨T,none,.func (PySem.W.fnOf x x (mZ st) (mH st) (kG st) .none .none .none pm none cd .none),⟨[]⟩⟩)(c:PySem.W.codeIn K cd x=true)(k:PySem.W.keepIn K (.ref f)=true):Fa K x st:=⟨f,_,II l c k,a⟩
theorem Fa.dn (D:Fa K x st)(X:K.In h)(G:h.Ns mainGlobals mg)(b:BA x x st ps):Dn K mg x st ps :=
 let ⟨f,fd,F,a⟩:=D
 ⟨f,fd,F,F.binds b,PySem.W.mg_of X G a⟩
theorem Fa.law (D:Fa K x st)(X:K.In h)(G:h.Ns mainGlobals mg)(e:mg x=some (.ref f)):∃fd,Ez K x x st f fd:=by
 obtain⟨g,fd,F,a⟩:=D;have e':=e.symm.trans (PySem.W.mg_of X G a);cases e';exact⟨fd,F⟩
theorem Ez.to {fd:FuncData}(F:Ez K x q st f fd)(b:BA x q st ["script"])(s:Shared)(v:Value):BindsTo s fd ⟨[v],[]⟩ [("script",v)]:=by
 obtain⟨oc,od,kV,doc,pm,an,cdv,ct,osl,rfl,lk,vP⟩:=F.ex;exact .of_eq (b kV doc pm an cdv ct [v] Z)
def Fm (K:zdg)(C:Addr)(m q:Str)(st:Stmt):Prop:=∃(f:Addr)(fd:FuncData),Ez K m q st f fd/\PySem.W.findIn K (.ref C) m=some (some (.ref f))/\PySem.W.isFn K (.ref f)=true/\PySem.W.keepIn K (.ref f)=true
theorem Fm.of (a:PySem.W.findIn K (.ref C) m=some (some (.ref f)))(i:PySem.W.isFn K (.ref f)=true)(l:K.lookup f=some ⟨T,none,.func (PySem.W.fnOf m q (mZ st) (mH st) (kG st) .none .none .none pm none cd .none),⟨[]⟩⟩)(c:PySem.W.codeIn K cd q=true)(k:PySem.W.keepIn K (.ref f)=true):Fm K C m q st:=⟨f,_,II l c k,a,i,k⟩
theorem Fm.mn (D:Fm K C m q st)(b:BA m q st ps):Mn K C m q st ps :=
 let ⟨f,fd,F,a,i,k⟩:=D
 ⟨f,fd,F,F.binds b,⟨a,i,k⟩⟩
theorem Fm.kn (D:Fm K C "__init__" q st)(mk:PySem.W.makesIn K C=true)(kc:PySem.W.keepIn K (.ref C)=true)(e:mg x=some (.ref C))(b:BA "__init__" q st ps):Kn K mg C x q st ps :=
 let ⟨f,fd,F,a,i,k⟩:=D
 ⟨f,fd,F,F.binds b,⟨mk,a,i,kc⟩,e⟩
end
section
variable {X:Cx}{k k':Nat}{x:Str}{ps:List Str}{sp:Sp}{a b e:Expr}{es:List Expr}{ta tb te:TE}{t:TA}{p pos pos':Pos}{r:R2}
theorem kU (i:Nat)(hN:X.N.Nodup)(he:PE X e te)(hi:X.N[i]?=some x:=by exact rfl)(hx:Loc X.env.scope x:=by first | exact Or.inl Z | exact Or.inr Z)(hs:swapsWith e (some (.Name x pos')) pos.line X.env=pure false:=by rfl)(hf:X.fn x=true\/X.env.scope.names.lookup x=some .local:=by first | exact .inl Z | exact .inr Z | assumption) :
  PS X (.Assign [.Name x pos'] e pos) (Iy te (mM i)):=M7 hN hi hx he hs hf
theorem mT (i:Nat)(hN:X.N.Nodup)(hi:X.N[i]?=some x:=by exact rfl)(hx:Loc X.env.scope x:=by first | exact Or.inl Z | exact Or.inr Z)(hf:X.fn x=true\/X.env.scope.names.lookup x=some .local:=by first | exact .inl Z | exact .inr Z | assumption):PG X (.Name x pos) (mM i):=oZ hN hi hx hf
theorem kW (D:Df X.prog X.w X.K X.mg X.base k x ps sp)(hr:nZ k' X.A)(ha:PA X (e::es) t)(le:k<=k':=by decide)(hg:Gl X x:=by rfl)(yE:(x == ("__debug__":Str))=false:=by decide)
  (he:starEach (e::es) X.env=(false,eval e X.env)::starEach es X.env:=by rfl)(sY:(backTo pos (starEach es X.env)).any (·.1)=false:=by rfl) :
  PE X (.Call (.Name x p) (e::es) [] pos) (A5 sp [] E0 t):=On D (hr.mono le) hg ha yE he sY
theorem k7 (hr:Pd X r)(ha:PE X a ta)(hb:PE X b tb)(hs:ET b:=by exact fun _ _=>Z):PE X (.Subscript a b pos) (Pe r ta tb):=P6 hr ha hb hs
theorem mC {op:CmpOp}(ho:uT X (compareOp op) r)(ha:PE X a ta)(hb:PE X b tb)(hm:behindInMarks op b=false:=by exact oO _):PT X (.Compare a [op] [b] pos) (Me (Pe r ta tb)):=EM ho ha hb hm
theorem oG (hm:X.mg "len"=none)(ha:PE X e te)(hg:Gl X "len":=by rfl)(hs:starEach [e] X.env=[(false,eval e X.env)]:=by rfl):PE X (.Call (.Name "len" p) [e] [] pos) (VF (fun xs H Q=>∃p ys,xs=[.ref p]/\(kR X.K H p ys\/lX X.K H p ys)/\Q (.int (ys.length:Nat)) H) (BK te Kd)):=lH ur hg hm Iu (ki ha kS hs) (he:=hs)
theorem lJ (ha:PE X e te)(hs:starEach [e] X.env=[(false,eval e X.env)]:=by rfl):PA X [e] (BK te Kd):=ki ha kS hs
theorem kZ {e':Expr}{te':TE}(ha:PE X e te)(hb:PE X e' te')(hs:starEach [e,e'] X.env=(false,eval e X.env)::starEach [e'] X.env:=by rfl)(Jz:starEach [e'] X.env=[(false,eval e' X.env)]:=by rfl):PA X [e,e'] (BK te (BK te' Kd)):=ki ha (ki hb kS Jz) hs
end
section
variable {n9:List (Str×Nat)}
variable {X:Cx}{elt iter tg:Expr}{ifs:List Expr}{scope:Scope}{pos py Jx:Pos}{x y:Str}{cl:List (Str×Addr)}{wi:TI}{g:TG}{tc:TT}{te:TE}
theorem oM {pX:List Str}{C:Addr}{s:Shared}{H:Hp}{fp:List Addr}(i:Nat)(hN:(n9.map (·.1)++pX).Nodup:=by decide +kernel)(hi:(mB X scope cl (n9.map (·.1)++pX) C s H fp).N[i]?=some x:=by exact rfl)(hx:Loc (mB X scope cl (n9.map (·.1)++pX) C s H fp).env.scope x:=by exact Or.inl Z)(hf:(mB X scope cl (n9.map (·.1)++pX) C s H fp).fn x=true\/(mB X scope cl (n9.map (·.1)++pX) C s H fp).env.scope.names.lookup x=some .local:=by exact Or.inr Z):PG (mB X scope cl (n9.map (·.1)++pX) C s H fp) (.Name x pos) (mM i):=oZ hN hi hx hf
theorem uZ {pX:List Str}{C:Addr}{s:Shared}{H:Hp}{fp:List Addr}{k:Nat}{p p':Pos}(i j:Nat)(hc:X.calm=true:=by exact rfl)(hN:(n9.map (·.1)++pX).Nodup:=by decide +kernel)(hi:(mB X scope cl (n9.map (·.1)++pX) C s H fp).N[i]?=some x:=by exact rfl)(hj:(mB X scope cl (n9.map (·.1)++pX) C s H fp).N[j]?=some y:=by exact rfl)(hx:Loc (mB X scope cl (n9.map (·.1)++pX) C s H fp).env.scope x:=by exact Or.inl Z)(hy:Loc (mB X scope cl (n9.map (·.1)++pX) C s H fp).env.scope y:=by exact Or.inl Z)(hf:(mB X scope cl (n9.map (·.1)++pX) C s H fp).fn x=true\/(mB X scope cl (n9.map (·.1)++pX) C s H fp).env.scope.names.lookup x=some .local:=by exact Or.inr Z)(hg:(mB X scope cl (n9.map (·.1)++pX) C s H fp).fn y=true\/(mB X scope cl (n9.map (·.1)++pX) C s H fp).env.scope.names.lookup y=some .local:=by exact Or.inr Z):PG (mB X scope cl (n9.map (·.1)++pX) C s H fp) (.Tuple [.Name x p,.Name y p'] k pos) (Ll X.K 2 (vH (mM i) (vH (mM j) Lk))):=nI hc (kX (oZ hN hi hx hf) (kX (oZ hN hj hy hg) mS))
theorem om (n9:List (Str×Nat))(pX:List Str)(hi:PI X tg iter wi)
  (hb:∀C s H fp,PG (mB X scope cl (n9.map (·.1)++pX) C s H fp) tg g/\Mw (mB X scope cl (n9.map (·.1)++pX) C s H fp) ifs tc/\PE (mB X scope cl (n9.map (·.1)++pX) C s H fp) elt te)
  (uN:closureFor scope X.env=pure cl:=by exact rfl)(hc:X.calm=true:=by exact rfl)(q9:scope.kind=.function:=by exact rfl)
  (rK:∀x∈scope.names,x.2=.local->scope.names.lookup x.1=some .local:=by decide +kernel)(qZ:∀y∈scope.names,y.2≠.cell:=by decide +kernel)
  (r8:∀y∈scope.names,y.2=.free->∃c,cl.lookup y.1=some c:=by exact El Z)
  (sZ:∀x c,cl.lookup x=some c->X.env.cells.lookup x=some c:=by repeat first | exact Ea | refine Br Z ?_)
  (xX:∀p∈n9,X.N[p.2]?=some p.1/\(X.env.kindOf p.1=some .cell\/X.env.kindOf p.1=some .free)/\((relabel scope X.env).names.lookup p.1=some .cell\/(relabel scope X.env).names.lookup p.1=some .free)/\∃c,cl.lookup p.1=some c:=by repeat first | exact DY | refine BU ⟨Z,Or.inl Z,Or.inl Z,_,Z⟩ ?_)
  (hl:sI n9.length g:=by first | exact vE O | exact vJ O O | exact qC O O O)
  (hs:∀x,foldedSetIterable iter X.env x=pure x:=by intro _;rfl) :
  PE X (.ListComp elt [⟨tg,iter,ifs,0⟩] scope pos) (Bh n9 pX.length wi g tc te):=A8 hc uN q9 rK qZ r8 sZ xX hl hi hb hs
theorem vV (i:Nat)(n9:List (Str×Nat))(pX:List Str)(hN:X.N.Nodup)(hi:PI X tg iter wi)
  (hb:∀C s H fp,PG (mB X scope cl (n9.map (·.1)++pX) C s H fp) tg g/\Mw (mB X scope cl (n9.map (·.1)++pX) C s H fp) ifs tc/\PE (mB X scope cl (n9.map (·.1)++pX) C s H fp) elt te)
  (uN:closureFor scope X.env=pure cl:=by exact rfl)(hc:X.calm=true:=by exact rfl)(q9:scope.kind=.function:=by exact rfl)
  (rK:∀x∈scope.names,x.2=.local->scope.names.lookup x.1=some .local:=by decide +kernel)(qZ:∀y∈scope.names,y.2≠.cell:=by decide +kernel)
  (r8:∀y∈scope.names,y.2=.free->∃c,cl.lookup y.1=some c:=by exact El Z)
  (sZ:∀x c,cl.lookup x=some c->X.env.cells.lookup x=some c:=by repeat first | exact Ea | refine Br Z ?_)
  (xX:∀p∈n9,X.N[p.2]?=some p.1/\(X.env.kindOf p.1=some .cell\/X.env.kindOf p.1=some .free)/\((relabel scope X.env).names.lookup p.1=some .cell\/(relabel scope X.env).names.lookup p.1=some .free)/\∃c,cl.lookup p.1=some c:=by repeat first | exact DY | refine BU ⟨Z,Or.inl Z,Or.inl Z,_,Z⟩ ?_)
  (hl:sI n9.length g:=by first | exact vE O | exact vJ O O | exact qC O O O)
  (Yq:X.N[i]?=some y:=by exact rfl)(hy:Loc X.env.scope y:=by first | exact Or.inl Z | exact Or.inr Z)
  (hs:∀x,foldedSetIterable iter X.env x=pure x:=by intro _;rfl)
  (Yr:swapsWith (.ListComp elt [⟨tg,iter,ifs,0⟩] scope pos) (some (.Name y py)) Jx.line X.env=pure true:=by rfl)
  (hf:X.fn y=true\/X.env.scope.names.lookup y=some .local:=by first | exact .inl Z | exact .inr Z | assumption) :
  PS X (.Assign [.Name y py] (.ListComp elt [⟨tg,iter,ifs,0⟩] scope pos) Jx) (Iy (Bh n9 pX.length wi g tc te) (mM i)):=CV hN Yq hy hc uN q9 rK qZ r8 sZ xX hl hi hb hs Yr hf
end
theorem mf {P:Program}{w:World}{K:zdg}{mg:Str->Option Value}{base:Heap}{x:Str}{st:Stmt}{N ps:List Str}{k:Nat}{sp:Sp}(D:Dn K mg x st ps)(S:kL N ps (kG st))
  (hbody:∀(f:Addr)(cdv:Value)(A:Around)(outer:List Env)(s:Shared)(H:Hp)(vs:List V)(Q:VK)(E:XK),nZ k (A.deeper (envOfC x (kG st) s.heap.objs.size f cdv))->N.Nodup->sp vs H Q E ->
   ∃t,yu (qX Dl P w K mg base N x (kG st) f cdv A outer s H E).Fc (mH st) t/\t { nx:=fun _ H'=>Q .non H',rt:=Q } (start N vs) H)
  (len:∀vs H Q E,sp vs H Q E->vs.length=ps.length:=by intro _ _ _ _ h;cases h;subst_vars;rfl):Df P w K mg base (k+1) x ps sp:=by
 obtain⟨f,fd,F,b,m⟩:=D.ex;exact⟨f,fd,F.ok S len (fun cdv A outer s H vs Q E hr h=>hbody f cdv A outer s H vs Q E hr S.nd h),b,F.kp,m⟩
theorem Rq (n:Nat):Builtin.Range.rangeSize ((n:Int)-1) (-1) (-1)=(n:Nat):=by
 unfold Builtin.Range.rangeSize;rw[ak O];split
 .have:((n:Int)-1 - -1-1) / - -1=(n:Int)-1:=by
   rw[show (- -1:Int)=1 by decide,Int.ediv_one];lia
  lia
 .lia
section
variable {X:Cx}{tg:Expr}
def Rp (ta:TA):TI:=fun σ H R=>ta σ H fun vs H1=>∃n:Nat,vs=[.int ((n:Int)-1),.int (-1),.int (-1)]/\n<=1000000/\R (GY ((n:Int)-1) (-1) n) H1
theorem FI {a b c:Expr}{ta:TA}{p pos:Pos}(hg:Gl X "range")(hm:X.mg "range"=none)(ha:PA X [a,b,c] ta)(he:starEach [a,b,c] X.env=(false,eval a X.env)::starEach [b,c] X.env:=by rfl)(sY:(backTo pos (starEach [b,c] X.env)).any (·.1)=false:=by rfl) :
  PI X tg (.Call (.Name "range" p) [a,b,c] [] pos) (Rp ta):=by
 intro ä s σ H R I h;refine Call_ (qG I hg hm boot_range (cF (nK (ha pos ä s σ H _ I h) fun us s1 ⟨vs,H1,I1,r1,q1⟩=>?_) he sY));obtain⟨n,e,n1,q⟩:=q1;subst e;cases r1 with
 | cons r rr =>
  cases rr with
  | cons r' rr =>
   cases rr with
   | cons T2 rr =>
    cases rr;obtain⟨t,rfl⟩:=r;obtain⟨t',rfl⟩:=r';obtain⟨Ps,rfl⟩:=T2;obtain⟨i,hi⟩:∃i:Int,i=(n:Int)-1:=⟨_,Z⟩;have sz:=Rq n;rw[<-hi] at sz q ⊢;refine call_range_3 J ?_ (.inl (i6 J));have sm:Builtin.Range.small i (-1) (-1)=true:=by
     unfold Builtin.Range.small;rw[sz];simp only[Builtin.Range.rangeFitsLong,Bool.and_eq_true,Bool.or_eq_true,decide_eq_true_eq,beq_iff_eq,if_true,gt_iff_lt];have c1:¬((0:Int) < -1):=O;simp only[c1,if_false];exact⟨J,.inr O⟩
    refine wpAny_pyIter_range (j4 ..) sm ?_;have I2:Inv X ä σ H1 { s1 with heap:=s1.heap.push { cls:=.type "range",data:=.fields #[.int i t,.int (-1) t',.int (-1) Ps] },toks:=s1.toks }:=I1.kept fun b o e=>aM _ e;refine⟨(s1.heap.push { cls:=.type "range",data:=.fields #[.int i t,.int (-1) t',.int (-1) Ps] }).objs.size,[(s1.heap.push { cls:=.type "range",data:=.fields #[.int i t,.int (-1) t',.int (-1) Ps] }).objs.size],_,_,H1,Z,
     I2.kept (t':=s1.toks) fun b o e=>aM _ e,BV _ i (-1) n,?_,fun b hb=>?_,q⟩
    .have e1:i+((0:Nat):Int)*(-1)=i:=by simp
     have e2:((n:Nat):Int)-((0:Nat):Int)=Builtin.Range.rangeSize i (-1) (-1):=by rw[sz];simp
     show IsRangeIter _ _ (i+((0:Nat):Int)*(-1)) (((n:Nat):Int)-((0:Nat):Int)) (-1)
     rw[e1,e2];exact bV _ Z
    .have e:b=(s1.heap.push { cls:=.type "range",data:=.fields #[.int i t,.int (-1) t',.int (-1) Ps] }).objs.size:=by simpa using hb
     subst e;exact I2.Cq (aH _) (I2.hok.fresh (aH _))
end
section
variable {X:Cx}{ev:Expr}{a b:Str}{i:Int}{ja jb}{pa pb pf pos:Pos}
theorem J2 (hv:PE X ev (tC (.int i)))(hi:i.natAbs.log2<1920)(hz:(Str.empty++a++(toString i:Str)++b).length<=sizeLine)(hz1:(Str.empty++a).length<=sizeLine)(hz2:(Str.empty++a++(toString i:Str)).length<=sizeLine) :
  PE X (.JoinedStr [.Constant (.str a) ja pa,.FormattedValue ev (-1) none pf,.Constant (.str b) jb pb] pos) (tC (.str (Str.empty++a++(toString i:Str)++b))):=by
 intro ä s σ H Q I h;refine JoinedStr_many (joinParts_cons (nK (mR (X:=X) ä s σ H (fun v H'=>v=.str a/\H'=H) I ⟨Z,Z⟩) fun v s1 ⟨x,H1,I1,r1,e1,e2⟩=>?_));subst e1 e2;obtain⟨t,rfl⟩:=r1;refine⟨hz1,joinParts_cons (FormattedValue_plain (nK (hv ä s1 σ H1 (fun v H'=>v=.int i/\H'=H1) I1 ⟨Z,Z⟩) fun v s2 ⟨x,H2,I2,r2,e1,e2⟩=>?_))⟩;subst e1 e2;obtain⟨t,rfl⟩:=r2;refine formatField_int_small hi ⟨hz2,?_⟩;have I3:=I2.tok (s2.toks+1+1);refine joinParts_cons (nK (mR (X:=X) ä _ σ H2 (fun v H'=>v=.str b/\H'=H2) I3 ⟨Z,Z⟩) fun v s4 ⟨x,H4,I4,r4,e1,e2⟩=>?_);subst e1 e2;obtain⟨t,rfl⟩:=r4;refine⟨hz,joinParts_nil ⟨.str (Str.empty++a++(toString i:Str)++b),H4,I4.tok _,⟨_,Z⟩,h⟩ hz⟩
end
end L2
namespace Pt
def Jm (m b:Int):Prop:=∀d,2<=d->d<b->¬d∣m
def oj (p:Int):Prop:=2<=p/\∀d,2<=d->d<p->¬d∣p
def IM (p q:Int):Prop:=∃e:Nat,q=p^(e+1)
def sf:List (Int×Int)->Int
 | []=>1
 | a::r=>a.2*sf r
theorem Ql (a:Int):a^(0+1)=a:=by rw[bu,eY,cY]
theorem rA:∀(a b:List (Int×Int)),sf (a++b)=sf a*sf b
 | [],b=>by simp[sf]
 | x::r,b=>by simp[sf,rA r b,Int.mul_assoc]
structure Row (x:Int×Int):Prop where
 pr:oj x.1
 pw:IM x.1 x.2
structure yC (n:Int)(ps:List (Int×Int))(left p:Int):Prop where
 prd:sf ps*left=n
 N5:Jm left p
 row:∀x∈ps,Row x
 low:∀x∈ps,x.1<p
 srt:ps.Pairwise fun a b=>a.1<b.1
structure Parts (n:Int)(ps:List (Int×Int)):Prop where
 prd:sf ps=n
 row:∀x∈ps,Row x
 srt:ps.Pairwise fun a b=>a.1<b.1
theorem start (n:Int):yC n [] n 2 :=
 ⟨by simp[sf],fun d h1 h2=>by lia,fun x h=>(nomatch h),fun x h=>(nomatch h),List.Pairwise.nil⟩
structure Ae (m p q:Int):Prop where
 pos:1<=q
 pw:∃e:Nat,q=p^e
 dv:q∣m
theorem q0 (m p:Int):Ae m p 1:=⟨J,⟨0,ke⟩,Int.one_dvd m⟩
theorem q1 {m p q:Int}(hp:2<=p)(h:Ae m p q)(d:m%(q*p)=0):Ae m p (q*p):=by
 obtain⟨h1,⟨e,he⟩,h3⟩:=h;have:=ay hp (show 0<=q by lia);exact⟨J,⟨e+1,by rw[he,bu]⟩,bR d⟩
theorem Kv {m p q:Int}(hm:1<=m)(h:Ae m p q):q<=m:=aW J h.dv
theorem Ic {p q:Int}(hp:2<=p)(h:1<=q):q<q*p:=by
 have:=ay hp (show 0<=q by lia);lia
structure CO (m p q:Int):Prop where
 inv:Ae m p q
 no:¬q*p∣m
theorem q2 {m p q:Int}(h:Ae m p q)(d:¬m%(q*p)=0):CO m p q:=⟨h,fun z=>d (bS z)⟩
theorem GU {n:Int}{ps:List (Int×Int)}{left p q:Int}(h:yC n ps left p)(hq:CO left p q)(h1:¬q > 1):yC n ps left (p+1):=by
 have e:q=1:=by have:=hq.inv.pos;lia
 have no:¬p∣left:=by have:=hq.no;rw[e,cY] at this;exact this
 refine⟨h.prd,fun d h2 h3=>?_,h.row,fun x hx=>by have:=h.low x hx;lia,h.srt⟩
 by_cases c:d=p
 .rw[c];exact no
 .exact h.N5 d h2 J
theorem IL {n:Int}{ps:List (Int×Int)}{left p q:Int}(hp:2<=p)(h:yC n ps left p)(hq:CO left p q)(h1:q > 1):yC n (ps++[(p,q)]) (left/q) (p+1):=by
 obtain⟨⟨q1,⟨e,he⟩,⟨c,hc⟩⟩,no⟩:=hq;have ec:left/q=c:=by rw[hc];exact aG c J
 cases e with
 | zero=>rw[he] at h1;simp at h1
 | succ e =>
  have pq:p∣q:=by rw[he,bu];exact gh _ _
  have pl:p∣left:=bJ pq ⟨c,hc⟩;have cl:c∣left:=⟨q,by rw[hc,aC]⟩;have JA:oj p:=⟨hp,fun d h2 h3 z=>h.N5 d h2 h3 (bJ z pl)⟩;refine⟨?_,?_,?_,?_,?_⟩
  .rw[rA,ec];simp only[sf,Int.mul_one];rw[aK,<-hc];exact h.prd
  .rw[ec];intro d h2 h3 z
   by_cases k:d=p
   .apply no;obtain⟨f,hf⟩:=z;exact⟨f,by rw[hc,hf,k,aK]⟩
   .exact h.N5 d h2 J (bJ z cl)
  .intro x hx;rcases List.mem_append.mp hx with hx | hx
   .exact h.row x hx
   .obtain rfl:=List.mem_singleton.mp hx;exact⟨JA,⟨e,he⟩⟩
  .intro x hx;rcases List.mem_append.mp hx with hx | hx
   .have:=h.low x hx;lia
   .obtain rfl:=List.mem_singleton.mp hx;show p<p+1;lia
  .rw[fG];refine⟨h.srt,gX _ _,fun a ha b hb=>?_⟩;obtain rfl:=List.mem_singleton.mp hb;exact h.low a ha
theorem Bx {left q:Int}(h:1<=left)(hd:q∣left)(hq:1<=q):1<=left/q/\left/q<=left:=by
 obtain⟨c,hc⟩:=hd;have ec:left/q=c:=by rw[hc];exact aG c J
 rw[ec];have cp:1<=c:=by
  rcases Int.lt_or_le 0 c with z | z
  .lia
  .have:=ay z (show 0<=q by lia);lia
 have:=aq hq (show 0<=c by lia);lia
theorem Ii {left p:Int}(hp:2<=p)(h:Jm left p)(hb:¬p*p<=left)(h1:left > 1):oj left/\p<=left:=by
 have pl:p<=left:=by
  rcases Int.lt_or_le left p with z | z
  .exact absurd (c7 left) (h left J z)
  .exact z
 refine⟨⟨J,fun d h2 h3 hd=>?_⟩,pl⟩;obtain⟨c,hc⟩:=id hd
 by_cases dp:d<p
 .exact h d h2 dp hd
 .have c2:2<=c:=by
   rcases Int.lt_or_le c 2 with z | z
   .have:c<=1:=J;have:=ay this (show 0<=d by lia);lia
   .exact z
  by_cases cp:c<p
  .exact h c c2 cp ⟨d,by rw[hc,aC]⟩
  .have a1:=ay (show p<=c by lia) (show 0<=d by lia);have a2:=aq (show p<=d by lia) (show 0<=p by lia);lia
theorem Q6 {n:Int}{ps:List (Int×Int)}{left p:Int}(hp:2<=p)(h:yC n ps left p)(hb:¬p*p<=left)(h1:left > 1):Parts n (ps++[(left,left)]):=by
 obtain⟨pr,pl⟩:=Ii hp h.N5 hb h1;refine⟨?_,?_,?_⟩
 .rw[rA];simp only[sf,Int.mul_one];exact h.prd
 .intro x hx;rcases List.mem_append.mp hx with hx | hx
  .exact h.row x hx
  .obtain rfl:=List.mem_singleton.mp hx;exact⟨pr,⟨0,(Ql left).symm⟩⟩
 .rw[fG];refine⟨h.srt,gX _ _,fun a ha b hb=>?_⟩;obtain rfl:=List.mem_singleton.mp hb;have:=h.low a ha;show a.1<left;lia
theorem NT {n:Int}{ps:List (Int×Int)}{left p:Int}(h:yC n ps left p)(h0:1<=left)(h1:¬left > 1):Parts n ps:=by
 have:left=1:=J;refine⟨?_,h.row,h.srt⟩;have:=h.prd;rw[‹left=1›,b3] at this;exact this
theorem xo {p:Int}(hp:2<=p)(k:Nat):1<=p^k:=by
 induction k with
 | zero=>simp
 | succ k ih =>
  rw[bu];have:=ay hp (show 0<=p^k by lia);lia
theorem BY {p:Int}(hp:2<=p){k e:Nat}(h:k<=e):p^k<=p^e:=by
 obtain⟨d,rfl⟩:=Nat.exists_eq_add_of_le h;rw[eT];have a:=xo hp k;have:=ay (xo hp d) (show 0<=p^k by lia);lia
theorem tR {x:Int×Int}(h:Row x):2<=x.1/\x.1<=x.2:=by
 obtain⟨e,he⟩:=h.pw;refine⟨h.pr.1,?_⟩;have a:=BY h.pr.1 (show 0+1<=e+1 by lia);rw[<-he,Ql] at a;exact a
theorem rB:∀(ps:List (Int×Int)),(∀x∈ps,Row x)->1<=sf ps
 | [],_=>by simp[sf]
 | x::r,h=>by
  have a:=tR (h x av);have b:=rB r fun y hy=>h y (ar _ hy);have c:=aq (show 1<=x.2 by lia) (show 0<=sf r by lia);simp only[sf];lia
theorem Dz:∀(ps:List (Int×Int)),(∀x∈ps,Row x)->∀x∈ps,x.2<=sf ps
 | [],_,_,h=>nomatch h
 | y::r,h,x,hx=>by
  have a:=tR (h y av);have h':∀z∈r,Row z:=fun z hz=>h z (ar _ hz);have b:=rB r h';simp only[sf];rcases List.mem_cons.mp hx with e | e
  .rw[e];have c:=ay b (show 0<=y.2 by lia);lia
  .have i:=Dz r h' x e;have c:=aq (show 1<=y.2 by lia) (show 0<=sf r by lia);lia
variable {p:Int}
theorem K8 {a:Int}(hp:oj p)(h:¬p∣a):Nat.Coprime p.natAbs a.natAbs:=by
 have g1:(Nat.gcd p.natAbs a.natAbs)∣p.natAbs:=Nat.gcd_dvd_left _ _;have g2:(Nat.gcd p.natAbs a.natAbs)∣a.natAbs:=Nat.gcd_dvd_right _ _;have e1:((Nat.gcd p.natAbs a.natAbs:Nat):Int)∣p:=jy.mpr g1;have e2:((Nat.gcd p.natAbs a.natAbs:Nat):Int)∣a:=jy.mpr g2;have p2:=hp.1;have gp:0<Nat.gcd p.natAbs a.natAbs:=Nat.gcd_pos_of_pos_left _ kg;have gl:((Nat.gcd p.natAbs a.natAbs:Nat):Int)<=p:=aW J e1;show Nat.gcd p.natAbs a.natAbs=1
 rcases Nat.lt_or_ge (Nat.gcd p.natAbs a.natAbs) 2 with z | z
 .lia
 .rcases Int.lt_or_le ((Nat.gcd p.natAbs a.natAbs:Nat):Int) p with y | y
  .exact absurd e1 (hp.2 _ J y)
  .have:((Nat.gcd p.natAbs a.natAbs:Nat):Int)=p:=J;rw[this] at e2;exact absurd e2 h
theorem euclid {a b:Int}(hp:oj p)(h:p∣a*b):p∣a\/p∣b:=by
 by_cases c:p∣a
 .exact .inl c
 .right;have q:=K8 hp c;have h':p.natAbs∣a.natAbs*b.natAbs:=by rw[<-aR];exact bi.mpr h
  exact bi.mp (q.dvd_of_dvd_mul_left h')
theorem sV {p r:Int}(hp:oj p)(hr:oj r):∀e:Nat,p∣r^e->p=r
 | 0,h=>by
  have:=aW (show (0:Int)<1 by decide) (show p∣1 by simpa using h);have:=hp.1;lia
 | e+1,h=>by
  rw[bu] at h;rcases euclid hp h with z | z
  .exact sV hp hr e z
  .have l:=aW (by have:=hr.1;lia) z;rcases Int.lt_or_le p r with y | y
   .exact absurd z (hr.2 p hp.1 y)
   .lia
theorem wg {p:Int}(hp:oj p):∀(ps:List (Int×Int)),(∀x∈ps,Row x)->p∣sf ps->∃x∈ps,x.1=p
 | [],_,h=>by
  have:=aW O (show p∣1 from h);have:=hp.1;lia
 | x::r,h,d=>by
  have d':p∣x.2*sf r:=d;rcases euclid hp d' with z | z
  .obtain⟨e,he⟩:=(h x List.mem_cons_self).pw;rw[he] at z;exact⟨x,av,(sV hp (h x av).pr _ z).symm⟩
  .obtain⟨y,hy,e⟩:=wg hp r (fun y hy=>h y (List.mem_cons_of_mem _ hy)) z;exact⟨y,ar _ hy,e⟩
theorem Nj (hp:2<=p)(k:Nat):p^k≠0:=by have:=xo hp k;lia
theorem J1 {j e:Nat}(h:j+1<=e):p^(j+1)∣p^e:=by
 obtain⟨d,rfl⟩:=Nat.exists_eq_add_of_le h;rw[eT p (j+1) d];exact dh _ _
structure DI (n c:Int)(low high:List Int):Prop where
 sq:∀x,1<=x->x<c->x*x<=n
 ls:low.Pairwise (· < ·)
 lm:∀x,x∈low↔(1<=x/\x<c)/\x∣n
 hs:high.Pairwise (· < ·)
 hm:∀y,y∈high↔∃x,(1<=x/\x<c)/\x*x≠n/\x*y=n
def GJ (n s:Int):Prop :=
 ((∃p,oj p/\p*p∣n)/\s=0)\/((∀p,oj p->¬p*p∣n)/\∃l:List Int,l.Nodup/\(∀p,p∈l↔oj p/\p∣n)/\s=(-1)^l.length)
theorem B8 {n:Int}(h:2<=n):∃p,oj p/\p∣n:=by
 have:∀k:Nat,∀c:Int,2<=c->(n-c).toNat=k->c<=n->(∀d,2<=d->d<c->¬d∣n)->∃p,oj p/\p∣n:=by
  intro k
  induction k with
  | zero =>
   intro c c2 ek cn no;have:c=n:=J;subst this;exact⟨c,⟨c2,no⟩,c7 _⟩
  | succ k ih =>
   intro c c2 ek cn no
   by_cases z:c∣n
   .exact⟨c,⟨c2,fun d a b y=>no d a b (bJ y z)⟩,z⟩
   .refine ih (c+1) J J J fun d a b=>?_
    by_cases q:d=c
    .subst q;exact z
    .exact no d a J
 exact this _ 2 J Z h (fun d a b=>by lia)
open Classical in
noncomputable def mu (n:Int):Int:=if h:∃s,GJ n s then Classical.choose h else 0
theorem take_snoc {α:Type}{ps:List α}{i:Nat}{x:α}(h:ps[i]?=some x):ps.take (i+1)=ps.take i++[x]:=by rw[df,h];rfl
structure LI (n0 n p done:Int):Prop where
 ex:∃m,n0=m*n/\GJ m done/\1<=m/\(∀r,oj r->r∣m->r<p)
 no:Jm n p
variable {ps:List (Int×Int)}
theorem vi {x:Int×Int}(h:x∈ps)(srt:ps.Pairwise fun a b=>a.1<b.1)(row:∀y∈ps,Row y):∃m,sf ps=x.2*m/\¬x.1∣m/\1<=m:=by
 obtain⟨a,b,rfl⟩:=List.append_of_mem h;rw[fG,fV] at srt;have ra:∀y∈a,Row y:=fun y hy=>row y (cA _ hy);have rb:∀y∈b,Row y:=fun y hy=>row y (aZ _ (ar _ hy));have rx:=row x h;refine⟨sf a*sf b,?_,fun z=>?_,?_⟩
 .rw[rA];simp only[sf];rw[Int.mul_left_comm]
 .rcases euclid rx.pr z with z | z
  .obtain⟨y,hy,e⟩:=wg rx.pr a ra z;have:=srt.2.2 y hy x av;lia
  .obtain⟨y,hy,e⟩:=wg rx.pr b rb z;have:=srt.2.1.1 y hy;lia
 .have:=cL (rB a ra) (rB b rb) J (by have:=rB a ra;lia);lia
theorem pB {n:Int}(h:Parts n ps)(x:Int×Int):x∈ps↔oj x.1/\x.1∣n/\IM x.1 x.2/\x.2∣n/\¬x.2*x.1∣n:=by
 constructor
 .intro hx;have rx:=h.row x hx;obtain⟨m,e,nd,m1⟩:=vi hx h.srt h.row;rw[h.prd] at e;obtain⟨k,hk⟩:=rx.pw;have dq:x.2∣n:=⟨m,e⟩;refine⟨rx.pr,bJ ?_ dq,rx.pw,dq,fun z=>nd ?_⟩
  .rw[hk,bu];exact gh _ _
  .rw[e] at z;exact iM (by have:=tR rx;lia) z
 .rintro⟨pr,d,⟨k,hk⟩,dq,nd⟩;rw[<-h.prd] at d;obtain⟨y,hy,e⟩:=wg pr ps h.row d;obtain⟨m,e2,nm,m1⟩:=vi hy h.srt h.row;rw[h.prd] at e2;obtain⟨j,hj⟩:=(h.row y hy).pw;rw[e] at hj nm;have p2:=pr.1;have le:∀{a b:Nat}{c:Int},¬x.1∣c->x.1^a∣x.1^b*c->a<=b:=by
   intro a b c hc hd;rcases Nat.lt_or_ge b a with z | z
   .obtain⟨t,rfl⟩:=Nat.exists_eq_add_of_le z;rw[show b+1+t=b+(t+1) by lia,eT] at hd;have:=iM (Nj p2 b) hd;exact absurd (bJ ⟨x.1^t,by rw[bu,aC]⟩ this) hc
   .exact z
  have k1:k+1<=j+1:=le nm (by rw[<-hj,<-e2,<-hk];exact dq);have k2:¬k+1+1<=j+1:=fun z=>nd (by
   rw[hk,<-bu,e2,hj];exact bJ (J1 z) (dh _ _))
  have:k=j:=J;have q:x=y:=gk e.symm (by rw[hk,hj,this]);rw[q];exact hy
theorem AZ:∀{a b:List (Int×Int)},a.Pairwise (fun x y=>x.1<y.1)->b.Pairwise (fun x y=>x.1<y.1)->(∀x,x∈a↔x∈b)->a=b
 | [],[],_,_,_=>rfl
 | [],y::b,_,_,h=>by have:=(h y).mpr av;cases this
 | x::a,[],_,_,h=>by have:=(h x).mp av;cases this
 | x::a,y::b,ha,hb,h=>by
  rw[fV] at ha hb;have e:x=y:=by
   have h1:=(h x).mp av;have h2:=(h y).mpr av;rcases List.mem_cons.mp h1 with e | e
   .exact e
   .rcases List.mem_cons.mp h2 with f | f
    .exact f.symm
    .have:=hb.1 x e;have:=ha.1 y f;lia
  subst e;congr 1;refine AZ ha.2 hb.2 fun z=>?_;have q:=h z;rw[fT,fT] at q;constructor
  .intro hz;rcases q.mp (.inr hz) with e | e
   .subst e;have:=ha.1 z hz;lia
   .exact e
  .intro hz;rcases q.mpr (.inr hz) with e | e
   .subst e;have:=hb.1 z hz;lia
   .exact e
theorem pU {n:Int}{a b:List (Int×Int)}(ha:Parts n a)(hb:Parts n b):a=b:=AZ ha.srt hb.srt fun x=>by rw[pB ha,pB hb]
structure CI (n c:Int)(k:Nat):Prop where
 ex:∃low high,DI n c low high/\low.length+high.length=k
def rt (n:Nat):Nat->Nat
 | 0=>0
 | d+1=>bif Nat.ble ((d+1)*(d+1)) n then d+1 else rt n d
end Pt
open Pt renaming oj→zak, Parts→zav, take_snoc→zba, sf→zct, pU→zdc, pB→zdd
namespace Eh
def G (a b:Int):Int:=(Int.gcd a b:Nat)
def ab (a:Int):Int:=if a<0 then -a else a
theorem CH (a:Int):ab a=(a.natAbs:Int):=by unfold ab;split<;>lia
theorem Xh (a b:Int):G (ab a) (ab b)=G a b:=by
 unfold G;rw[CH,CH];simp[Int.gcd]
theorem Hv (a b:Int):0<=G a b:=jx _
theorem start (a b:Int):0<=ab a/\0<=ab b/\G (ab a) (ab b)=G a b:=by
 refine⟨?_,?_,Xh a b⟩<;>(rw[CH];lia)
theorem turn {a b g s:Int}(hg:0<=g)(hs:0<=s)(h:G g s=G a b)(ne:¬s=0) :
  0<=s/\0<=Int.fmod g s/\G s (Int.fmod g s)=G a b:=by
 have e:=cW g hs;refine⟨hs,?_,?_⟩
 .rw[e];exact aE _ ne
 .rw[e,<-h];unfold G;congr 1;obtain⟨m,rfl⟩:=Int.eq_ofNat_of_zero_le hg;obtain⟨n,rfl⟩:=Int.eq_ofNat_of_zero_le hs;rw[<-Int.natCast_emod];show Nat.gcd n (m%n)=Nat.gcd m n
  rw[i9 n,<-Nat.gcd_rec,i9]
theorem less {g s:Int}(hs:0<=s)(ne:¬s=0):(Int.fmod g s).toNat<s.toNat:=by
 have e:=cW g hs;have:=aA g (show 0<s by lia);have:=aE g ne;lia
theorem out {a b g s:Int}(hg:0<=g)(h:G g s=G a b)(z:s=0):g=G a b:=by
 subst z;unfold G at *;have:Int.gcd g 0=g.natAbs:=Int.gcd_zero_right g;lia
theorem Ry {a b g s:Int}(hg:0<=g)(hs:0<=s)(h:G g s=G a b)(ne:¬s=0):0<=g%s/\G s (g%s)=G a b/\(g%s).toNat<s.toNat:=by
 have t:=turn hg hs h ne;have l:=less (g:=g) hs ne;rw[cW g hs] at t l;exact⟨t.2.1,t.2.2,l⟩
structure Bk (st n r c lr lc:Int):Prop where
 g:G r lr=G st n
 x:∃x,r=st*c+n*x
 y:∃y,lr=st*lc+n*y
theorem bk0 {st n:Int}(hn:0<n):0<=n/\0<=Int.fmod st n/\Int.fmod st n<n+1/\Bk st n n 0 (Int.fmod st n) 1:=by
 have e:=cW st (io hn);have h0:=aE st (show n≠0 by lia);have h1:=aA st hn;refine⟨J,J,J,?_,⟨1,?_⟩,⟨-(st/n),?_⟩⟩
 .rw[e];unfold G;congr 1;have d:=bP st n;have q:Int.gcd n (st%n+n*(st/n))=Int.gcd n (st%n):=Int.gcd_add_mul_left_right ..;rw[d] at q;rw[<-q,Int.gcd_comm]
 .simp
 .rw[e,fY,b3];have:=bP st n;lia
theorem bkt {st n r c lr lc:Int}(hr:0<=r)(h0:0<=lr)(ne:¬lr=0)(h:Bk st n r c lr lc) :
  0<=lr/\0<=r-Int.fdiv r lr*lr/\Bk st n lr lc (r-Int.fdiv r lr*lr) (c-Int.fdiv r lr*lc):=by
 have e:=eI r h0;rw[e];have m:r-r/lr*lr=r%lr:=by
  have:=bP r lr;rw[aC] at this;lia
 rw[m];obtain⟨hg,⟨x,hx⟩,⟨y,hy⟩⟩:=h;have t:=turn hr h0 hg ne;have f:=cW r h0;rw[f] at t;refine⟨h0,t.2.1,t.2.2,⟨y,hy⟩,⟨x-r/lr*y,?_⟩⟩;rw[<-m,cS,cS];have a1:st*(r/lr*lc)=r/lr*(st*lc):=by rw[jD]
 have a2:n*(r/lr*y)=r/lr*(n*y):=by rw[jD]
 have a3:r/lr*lr=r/lr*(st*lc)+r/lr*(n*y):=by rw[<-fH,<-hy]
 lia
theorem Nc {r lr:Int}(h0:0<=lr)(ne:¬lr=0):(r-Int.fdiv r lr*lr).toNat<lr.toNat:=by
 have e:=eI r h0;rw[e];have m:r-r/lr*lr=r%lr:=by
  have:=bP r lr;rw[aC] at this;lia
 rw[m];have:=aA r (show 0<lr by lia);have:=aE r ne;lia
theorem Vq {st n:Int}(hn:0<n):0<=st%n/\st%n<n/\Bk st n n 0 (st%n) 1:=by
 have h:=bk0 (st:=st) hn;rw[cW st (io hn)] at h;exact⟨h.2.1,aA st hn,h.2.2.2⟩
theorem WY {st n r c lr lc:Int}(hr:0<=r)(h0:0<=lr)(ne:¬lr=0)(h:Bk st n r c lr lc) :
  0<=r-r/lr*lr/\(r-r/lr*lr)<lr/\(r-r/lr*lr).toNat<lr.toNat/\Bk st n lr lc (r-r/lr*lr) (c-r/lr*lc):=by
 have t:=bkt hr h0 ne h;have l:=Nc (r:=r) h0 ne;rw[eI r h0] at t l;refine⟨t.2.1,J,l,t.2.2⟩
def us (n:Int)(i:Nat):List Int:=((List.range i).map fun (j:Nat)=>(1+(j:Int))).filter fun k=>decide (G k n=1)
end Eh
open Eh renaming G→zbq
namespace Ld
def tab (n:Nat)(F:Int->Int):List Int:=(List.range n).map fun x:Nat=>F x
theorem wc (n:Nat)(F:Int->Int):(tab n F).length=n:=by simp[tab]
theorem GO {n:Nat}{F:Int->Int}(hn:0<n)(hF:vn n F)(x:Int):at' (tab n F) x=F x:=by
 have e:=tP (a:=tab n F) (x:=x) (by rw[wc];exact hn);rw[wc] at e;unfold tab at e;rw[af,dH (wf hn x)] at e;have e':=bL e;unfold tab;rw[<-e'];show F (((x%n).toNat:Nat):Int)=_
 rw[z5 hn];exact hF.md x
theorem Wd {st n:Int}:∀(m:Nat)(r c lr lc:Int),lr.toNat=m->0<=r->0<=lr->Eh.Bk st n r c lr lc->∃c' x,zbq st n=st*c'+n*x:=by
 intro m
 induction m using Nat.strongRecOn with
 | ind m ih =>
  intro r c lr lc hm hr h0 h
  by_cases z:lr=0
  .obtain⟨hg,⟨x,hx⟩,_⟩:=h;have:=Eh.out hr hg z;exact⟨c,x,by rw[<-this];exact hx⟩
  .have t:=Eh.WY hr h0 z h;exact ih _ (by rw[<-hm];exact t.2.2.1) _ _ _ _ Z h0 t.1 t.2.2.2
theorem MX {st:Int}{n:Nat}(hn:0<n)(g:zbq st n=1):∃v,(st*v)%n=1%n:=by
 have b:=Eh.Vq (st:=st) (n:=n) J;obtain⟨c,x,e⟩:=Wd _ _ _ _ _ Z J b.1 b.2.2;refine⟨c,?_⟩;rw[g] at e;rw[e,dE]
def turned (a:List Int)(zE:Int):List Int:=tab a.length fun x=>at' a (x-zE)
theorem xO (a:List Int)(zE:Int):(turned a zE).length=a.length:=wc _ _
theorem K4 {a:List Int}{n:Nat}(h:a.length=n)(c:Int):vn n fun x=>at' a (x-c):=fun x y e=>pT h _ _ (by rw[eZ,e,<-eZ])
theorem y4 {a:List Int}(hn:0<a.length)(zE x:Int):at' (turned a zE) x=at' a (x-zE):=GO hn (K4 Z zE) x
structure JM (n:Nat)(st:Int)(a o:List Int):Prop where
 la:a.length=n
 lo:o.length=n
 at_:∀x:Int,at' o (x*st)=at' a x
theorem JM.plus {n:Nat}(hn:0<n){s:Int}{a b l r:List Int}(h:JM n s a l)(g:JM n s b r):JM n s (plus a b) (plus l r) :=
 ⟨by rw[qO (h.la.trans g.la.symm),h.la],by rw[qO (h.lo.trans g.lo.symm),h.lo],fun x=>by
  rw[zM (h.lo.trans g.lo.symm) (by rw[h.lo];exact hn),zM (h.la.trans g.la.symm) (by rw[h.la];exact hn),h.at_,g.at_]⟩
theorem JM.turned {n:Nat}(hn:0<n){s:Int}{a l:List Int}(h:JM n s a l)(zE:Int):JM n s (turned a zE) (turned l (zE*s)) :=
 ⟨by rw[xO,h.la],by rw[xO,h.lo],fun x=>by
  rw[y4 (by rw[h.lo];exact hn),y4 (by rw[h.la];exact hn),<-cT,h.at_]⟩
variable {q:Nat}
def MZ (a:List Int)(q:Nat)(x:Int):Int:=if x%q=0 then at' a (x/q) else 0
def fin (a:List Int)(q:Nat):List Int:=tab (q*a.length) (MZ a q)
theorem EO (a:List Int)(q:Nat):(fin a q).length=q*a.length:=wc _ _
theorem KD {n:Nat}(hq:0<q){x y:Int}(h:x%((q*n:Nat):Int)=y%((q*n:Nat):Int)):x%q=y%q/\(x/q)%n=(y/q)%n:=by
 have d:((q:Nat):Int)∣((q*n:Nat):Int):=by rw[aP];exact dh _ _
 refine⟨?_,?_⟩
 .rw[<-bf x d,h,bf y d]
 .have e:((q*n:Nat):Int)∣x-y:=bR (aL.mp h);obtain⟨t,ht⟩:=e;rw[aP] at ht;have ex:x=y+q*(n*t):=by rw[<-aK];lia
  rw[ex,jj _ _ J,dE]
theorem Kc {a:List Int}{n:Nat}(ha:a.length=n)(hq:0<q):vn (q*n) (MZ a q):=fun x y h=>by
 have d:=KD hq h;unfold MZ;rw[d.1,pT ha _ _ d.2]
theorem IF {a:List Int}(hn:0<a.length)(hq:0<q)(x:Int):at' (fin a q) x=if x%q=0 then at' a (x/q) else 0:=GO (fZ hq hn) (Kc Z hq) x
theorem Gv {st v:Int}{n:Nat}(h:(st*v)%((q*n:Nat):Int)=1%((q*n:Nat):Int)):(st*v)%n=1%n/\(st*v)%q=1%q:=by
 have d1:((n:Nat):Int)∣((q*n:Nat):Int):=by rw[aP];exact gh _ _
 have d2:((q:Nat):Int)∣((q*n:Nat):Int):=by rw[aP];exact dh _ _
 exact⟨by rw[<-bf _ d1,h,bf _ d1],by rw[<-bf _ d2,h,bf _ d2]⟩
theorem JM.fin {n q:Nat}(hn:0<n)(hq:0<q){st v:Int}{a o:List Int}(h:JM n st a o)(hv:(st*v)%((q*n:Nat):Int)=1%((q*n:Nat):Int)):JM (q*n) st (fin a q) (fin o q) :=
 ⟨by rw[EO,h.la],by rw[EO,h.lo],fun x=>by
  rw[IF (by rw[h.lo];exact hn) hq,IF (by rw[h.la];exact hn) hq];have iq:=(Gv hv).2
  by_cases z:x%q=0
  .obtain⟨y,rfl⟩:=Int.dvd_of_emod_eq_zero z;rw[aB z,aB (by rw[aK,jz]),aK,aG _ J,aG _ J,h.at_]
  .rw[ak z,ak fun w=>z ?_];have:(x*st*v)%q=x%q:=by rw[aK,g3,iq,<-g3,b3]
   rw[<-this,g3,w,bn,eO]⟩
end Ld
namespace Pl
theorem UR {m p:Int}(hm:1<=m)(hp:2<=p):∀(k:Nat)(q:Int),(m-q).toNat=k->Pt.Ae m p q->∃q',Pt.CO m p q':=by
 intro k
 induction k using Nat.strongRecOn with
 | ind k ih =>
  intro q hk h
  by_cases d:m%(q*p)=0
  .have h1:=Pt.q1 hp h d;have g:=Pt.Ic hp h.pos;have l:=Pt.Kv hm h1;exact ih _ kg _ Z h1
  .exact⟨q,Pt.q2 h d⟩
theorem xi {n:Int}(hn:1<=n):∃ps,zav n ps:=by
 have go:∀(k:Nat)(ps:List (Int×Int))(left p:Int),(n+2-p).toNat=k->Pt.yC n ps left p->2<=p->1<=left->left<=n->∃ps,zav n ps:=by
  intro k
  induction k using Nat.strongRecOn with
  | ind k ih =>
   intro ps left p hk h p2 l1 ln
   by_cases c:p*p<=left
   .have pl:p<=left:=by have:=ay (show 1<=p by lia) (show 0<=p by lia);lia
    obtain⟨q,hq⟩:=UR l1 p2 _ 1 Z (Pt.q0 left p)
    by_cases g:q > 1
    .have lp:=Pt.Bx l1 hq.inv.dv hq.inv.pos;exact ih _ J _ _ (p+1) Z (Pt.IL p2 h hq g) J lp.1 J
    .exact ih _ J _ _ (p+1) Z (Pt.GU h hq g) J l1 ln
   .by_cases g:left > 1
    .exact⟨_,Pt.Q6 p2 h c g⟩
    .exact⟨_,Pt.NT h l1 g⟩
 exact go _ [] n 2 Z (Pt.start n) J hn (dj _)
def ds (n:Nat):Nat->List Int
 | 0=>[]
 | k+1=>ds n k++(if ((k:Int)+1)∣(n:Int) then [(k:Int)+1] else [])
noncomputable def pv (n:Nat)(zE:Int):Int:=(((ds n n).filter fun d=>decide (d∣zE)).map fun d=>d*Pt.mu (n/d)).sum
noncomputable def mk (n:Nat)(d:Int):Int×Int:=(d,d*Pt.mu (n/d))
theorem Im (F:Int->Int):∀n:Nat,((List.range n).map fun j:Nat=>F j).sum=zab n F
 | 0=>rfl
 | n+1=>by rw[jW,aS,List.sum_append,Im F n];simp[zab]
end Pl
namespace Rs
variable {ps:List (Int×Int)}{x:Int×Int}
open Pt (Parts sf oj Row IM)
theorem XH {a b t:Int}(h:Nat.Coprime a.natAbs b.natAbs)(ha:a∣t)(hb:b∣t):a*b∣t:=by
 rw[<-bi] at ha hb ⊢;rw[aR];exact Nat.Coprime.mul_dvd_of_dvd_of_dvd h ha hb
theorem Bj {a b t:Int}(h:Nat.Coprime a.natAbs b.natAbs)(hd:a∣b*t):a∣t:=by
 rw[<-bi] at hd ⊢;rw[aR] at hd;exact eQ h hd
theorem sU {p m:Int}(hp:oj p)(h:¬p∣m)(e:Nat):Nat.Coprime (p^e).natAbs m.natAbs:=by
 rw[j8];exact jp e (Pt.K8 hp h)
theorem nS {n:Int}(hp:Parts n ps)(hx:x∈ps):∃m,n=x.2*m/\n/x.2=m/\¬x.1∣m/\2<=x.2/\x.1∣x.2/\Nat.Coprime x.2.natAbs m.natAbs:=by
 obtain⟨m,e,nd,_⟩:=Pt.vi hx hp.srt hp.row;rw[hp.prd] at e;have row:=hp.row x hx;obtain⟨k,hk⟩:=row.pw;have l:=Pt.tR row;refine⟨m,e,by rw[e];exact aG _ J,nd,J,by rw[hk,bu];exact gh _ _,?_⟩;rw[hk];exact sU row.pr nd _
theorem Ai {n:Int}(hp:Parts n ps)(hx:x∈ps):zbq (n/x.2) x.2=1:=by
 obtain⟨m,_,e,_,_,_,c⟩:=nS hp hx;rw[e];unfold zbq Int.gcd;rw[i9];have:Nat.gcd x.2.natAbs m.natAbs=1:=c;rw[this];rfl
theorem IE {y:Int×Int}(hx:Row x)(hy:Row y)(ne:x.1≠y.1):Nat.Coprime x.2.natAbs y.2.natAbs:=by
 obtain⟨k,hk⟩:=hx.pw;obtain⟨j,hj⟩:=hy.pw;rw[hk];refine sU hx.pr (fun d=>ne ?_) _;rw[hj] at d;exact Pt.sV hx.pr hy.pr _ d
theorem EC {t:Int}:∀{ps:List (Int×Int)},(∀x∈ps,Row x)->ps.Pairwise (fun a b=>a.1<b.1)->(∀x∈ps,x.2∣t)->sf ps∣t
 | [],_,_,_=>gn t
 | x::r,row,srt,h=>by
  have ⟨s1,s2⟩:=fV.mp srt;have ih:=EC (fun y hy=>row y (ar _ hy)) s2 (fun y hy=>h y (ar _ hy));have BF:∀{l:List (Int×Int)},(∀y∈l,Row y/\x.1≠y.1)->Nat.Coprime x.2.natAbs (sf l).natAbs:=by
   intro l
   induction l with
   | nil=>intro _;simp[sf]
   | cons y l ih =>
    intro hl;have a:=hl y av;have b:=ih fun z hz=>hl z (ar _ hz);simp only[sf];rw[aR];exact Nat.Coprime.mul_right (IE (row x av) a.1 a.2) b
  exact XH (BF fun y hy=>⟨row y (ar _ hy),by have:=s1 y hy;lia⟩) (h x av) ih
theorem Bv {n:Int}(hp:Parts n ps){y:Int×Int}(hx:x∈ps)(hy:y∈ps)(ne:x.1≠y.1):x.2∣n/y.2:=by
 obtain⟨m,e,e',_⟩:=nS hp hy;obtain⟨m',f,_⟩:=nS hp hx;rw[e'];refine Bj (IE (hp.row x hx) (hp.row y hy) ne) ?_;rw[<-e,f];exact dh _ _
structure Sh (n q ë c:Int):Prop where
 lo:0<=c
 hi:c<q
 dv:q∣c*(n/q)-ë
theorem xl {n q ë u:Int}(hq:0<q)(hu:(n/q*u-1)%q=0):Sh n q ë (ë*u%q):=by
 refine⟨aE _ J,aA _ hq,?_⟩;have d1:q∣ë*u-ë*u%q:=Int.dvd_self_sub_emod;have d2:q∣n/q*u-1:=bR hu;have e:ë*u%q*(n/q)-ë=ë*(n/q*u-1)-(ë*u-ë*u%q)*(n/q):=by
  rw[cS,cT,b3];have:ë*(n/q*u)=ë*u*(n/q):=by rw[aK,aC u]
  lia
 rw[e];exact bp (ax d2) (aD d1)
theorem Ab {n q h h' c c':Int}(BF:Nat.Coprime q.natAbs (n/q).natAbs)(a:Sh n q h c)(b:Sh n q h' c')(e:q∣h-h'):c=c':=by
 have d:q∣n/q*(c-c'):=by
  have:=bT (bp a.dv b.dv) e;have z:c*(n/q)-h-(c'*(n/q)-h')+(h-h')=n/q*(c-c'):=by
   rw[cS,aC (n/q) c,aC (n/q) c'];lia
  rwa [z] at this
 have d':=Bj BF d;have z:=aL.mpr (bS d');rwa [aX a.lo a.hi,aX b.lo b.hi] at z
theorem ug {n:Int}(hp:Parts n ps)(hx:x∈ps):Nat.Coprime x.2.natAbs (n/x.2).natAbs:=by
 obtain⟨m,_,e,_,_,_,c⟩:=nS hp hx;rw[e];exact c
def Pi (n:Int)(l:List ((Int×Int)×Int)):Int:=(l.map fun z=>z.2*(n/z.1.2)).sum
theorem FK {n:Int}(hp:zav n ps):(ps.length:Int)<=n:=by
 have key:∀l:List (Int×Int),(∀x∈l,Pt.Row x)->(l.length:Int)<=zct l:=by
  intro l
  induction l with
  | nil=>intro _;simp[zct]
  | cons x r ih =>
   intro h;have a:=ih fun y hy=>h y (ar _ hy);have b:=Pt.tR (h x av);have c:=Pt.rB r fun y hy=>h y (ar _ hy);simp only[zct,List.length_cons];have:=aq (show 2<=x.2 by lia) (show 0<=zct r by lia);lia
 have:=key ps hp.row;rwa [hp.prd] at this
end Rs
open Rs renaming xl→zcr, nS→zcs
namespace Eb
theorem zU {a b:Int}(ha:0<=a)(hb:b<=0):a*b<=0:=by
 have:=bI ha (show 0<=-b by lia);rw[fY] at this;lia
def Sg (x y z w:Int):Prop:=(0<=x/\y<=0/\z<=0/\0<=w)\/(x<=0/\0<=y/\0<=z/\w<=0)
theorem Sg.step {x y z w q:Int}(h:Sg x y z w)(hq:0<=q):Sg z w (x-q*z) (y-q*w):=by
 rcases h with ⟨a,b,c,d⟩ | ⟨a,b,c,d⟩
 .have:=zU hq c;have:=bI hq d;exact .inr ⟨c,d,J,J⟩
 .have:=bI hq c;have:=zU hq d;exact .inl ⟨c,d,J,J⟩
inductive Tn (A B:Int):Int->Int->Int->Int->Prop where
 | one:Tn A B 1 0 0 1
 | step {x y z w:Int}(q:Int):Tn A B x y z w->0<z*A+w*B->0<=(x-q*z)*A+(y-q*w)*B->(x-q*z)*A+(y-q*w)*B<z*A+w*B->0<=q->Tn A B z w (x-q*z) (y-q*w)
theorem Tn.sg {A B x y z w:Int}(h:Tn A B x y z w):Sg x y z w:=by
 induction h with
 | one=>exact .inl ⟨O,O,O,O⟩
 | step q _ _ _ _ hq ih=>exact ih.step hq
theorem Tn.le {A B x y z w:Int}(h:Tn A B x y z w):z*A+w*B<=B:=by
 induction h with
 | one=>lia
 | step q _ _ _ lt _ ih=>lia
theorem Tn.lt {A B x y z w:Int}(h:Tn A B x y z w)(ne:¬(x=1/\y=0/\z=0/\w=1)):z*A+w*B<B:=by
 cases h with
 | one=>exact absurd ⟨Z,Z,Z,Z⟩ ne
 | step q h _ _ lt _=>have:=h.le;lia
theorem Tn.pos {A B x y z w:Int}(h:Tn A B x y z w)(hA:0<=A)(hB:0<=B):0<=x*A+y*B/\0<=z*A+w*B:=by
 induction h with
 | one=>exact⟨J,J⟩
 | step q _ p n _ _ _=>exact⟨J,n⟩
structure St (one other r0 r1 c0 c1:Int):Prop where
 p0:0<=r0
 p1:0<=r1
 sg:(c0<=0/\0<=c1)\/(0<=c0/\c1<=0)
 m:∃m0 m1:Int,r0=m0*one+c0*other/\r1=m1*one+c1*other/\(m0*c1-m1*c0=1\/m0*c1-m1*c0=-1)
theorem St.start {one other:Int}(h1:0<=one)(h2:0<=other):St one other one other 0 1:=⟨h1,h2,.inl ⟨O,O⟩,1,0,J,J,.inl O⟩
theorem St.step {one other r0 r1 c0 c1 q:Int}(h:St one other r0 r1 c0 c1)(hq:0<=q)(p:0<=r0-q*r1):St one other r1 (r0-q*r1) c1 (c0-q*c1):=by
 obtain⟨p0,p1,sg,m0,m1,e0,e1,d⟩:=h;refine⟨p1,p,?_,m1,m0-q*m1,e1,by grind,?_⟩
 .rcases sg with ⟨a,b⟩ | ⟨a,b⟩
  .have:=bI hq b;exact .inr ⟨b,J⟩
  .have:=zU hq b;exact .inl ⟨b,J⟩
 .have e:m1*(c0-q*c1)-(m0-q*m1)*c1=-(m0*c1-m1*c0):=by grind
  rw[e];rcases d with d | d<;>rw[d]
  .exact .inr Z
  .exact .inl Z
theorem Tn.st {one other r0 r1 c0 c1 x y z w:Int}(t:Tn r0 r1 x y z w)(h:St one other r0 r1 c0 c1):St one other (x*r0+y*r1) (z*r0+w*r1) (x*c0+y*c1) (z*c0+w*c1):=by
 induction t with
 | one =>
  have e1:1*r0+0*r1=r0:=J;have e2:0*r0+1*r1=r1:=J;have e3:1*c0+0*c1=c0:=J;have e4:0*c0+1*c1=c1:=J;rw[e1,e2,e3,e4];exact h
 | @step x y z w q _ _ n _ hq ih =>
  have e1:(x-q*z)*r0+(y-q*w)*r1=(x*r0+y*r1)-q*(z*r0+w*r1):=by grind
  have e2:(x-q*z)*c0+(y-q*w)*c1=(x*c0+y*c1)-q*(z*c0+w*c1):=by grind
  rw[e1] at n ⊢;rw[e2];exact ih.step hq n
theorem St.Bv {one other r0 r1 c0 c1:Int}(h:St one other r0 r1 c0 c1)(h1:0<=one):r0*c1.natAbs+r1*c0.natAbs=one:=by
 obtain⟨p0,p1,sg,m0,m1,e0,e1,d⟩:=h;have e:r0*c1-r1*c0=(m0*c1-m1*c0)*one:=by rw[e0,e1];grind
 rcases sg with ⟨a,b⟩ | ⟨a,b⟩
 .have k1:(c1.natAbs:Int)=c1:=J;have k0:(c0.natAbs:Int)=-c0:=J;rw[k1,k0,fY];have p2:=bI p0 b;have p3:=bI p1 (show 0<=-c0 by lia);rw[fY] at p3;rcases d with d | d<;>rw[d] at e<;>lia
 .have k1:(c1.natAbs:Int)=-c1:=J;have k0:(c0.natAbs:Int)=c0:=J;rw[k1,k0,fY];have p2:=bI p0 (show 0<=-c1 by lia);have p3:=bI p1 a;rw[fY] at p2;rcases d with d | d<;>rw[d] at e<;>lia
theorem err {u v α β H:Int}(h:(0<=u/\v<=0)\/(u<=0/\0<=v))(a0:0<=α)(a1:α<=H)(b0:0<=β)(b1:β<=H){d:Int}(du:(u.natAbs:Int)<=d)(dv:(v.natAbs:Int)<=d):-(d*H)<=u*α+v*β/\u*α+v*β<=d*H:=by
 have H0:0<=H:=J;have key:∀{x y:Int},0<=x->x<=d->0<=y->y<=H->x*y<=d*H:=fun hx hd hy hH=>cL hd hH hy J;rcases h with ⟨a,b⟩ | ⟨a,b⟩
 .have k1:=key a J a0 a1;have k2:=key (show 0<=-v by lia) J b0 b1;have p1:=bI a a0;have p2:=bI (show 0<=-v by lia) b0;rw[jq] at k2 p2;lia
 .have k1:=key b J b0 b1;have k2:=key (show 0<=-u by lia) J a0 a1;have p1:=bI b b0;have p2:=bI (show 0<=-u by lia) a0;rw[jq] at k2 p2;lia
theorem sure {A B a b α β H x y z w:Int}(hH:1<=H)(eA:A=a*H+α)(eB:B=b*H+β)(a0:0<=α)(a1:α<H)(b0:0<=β)(b1:β<H)(t:Tn A B x y z w){q:Int}(hq:0<=q)
  (L0:0<z*A+w*B){d d':Int}(dx:((x-q*z).natAbs:Int)<=d)(dy:((y-q*w).natAbs:Int)<=d)(dz:(z.natAbs:Int)<=d')(dw:(w.natAbs:Int)<=d')
  (n1:d<(x-q*z)*a+(y-q*w)*b)(n2:d+d'<(z*a+w*b)-((x-q*z)*a+(y-q*w)*b)) :
  Tn A B z w (x-q*z) (y-q*w)/\H<=(x-q*z)*A+(y-q*w)*B:=by
 have s:=t.sg;have s2:=s.step hq;have d0:0<=d:=J;have d'0:0<=d':=J;have e1:=err (H:=H-1) (u:=x-q*z) (v:=y-q*w) (α:=α) (β:=β) (d:=d) (by rcases s2 with ⟨_,_,a,b⟩ | ⟨_,_,a,b⟩;exact .inr ⟨a,b⟩;exact .inl ⟨a,b⟩) a0 J b0 J dx dy;have e2:=err (H:=H-1) (u:=z) (v:=w) (α:=α) (β:=β) (d:=d') (by rcases s with ⟨_,_,a,b⟩ | ⟨_,_,a,b⟩;exact .inr ⟨a,b⟩;exact .inl ⟨a,b⟩) a0 J b0 J dz dw;have t1:(x-q*z)*A+(y-q*w)*B=((x-q*z)*a+(y-q*w)*b)*H+((x-q*z)*α+(y-q*w)*β):=by rw[eA,eB];grind
 have t2:z*A+w*B=(z*a+w*b)*H+(z*α+w*β):=by rw[eA,eB];grind
 generalize (x-q*z)*a+(y-q*w)*b=new at *;generalize z*a+w*b=í at *;generalize (x-q*z)*α+(y-q*w)*β=s1 at *;generalize z*α+w*β=JT at *;have m1:=aq (show d+1<=new by lia) (show 0<=H by lia);have m2:=aq (show d+d'+1<=í-new by lia) (show 0<=H by lia);have x1:(d+1)*H=d*(H-1)+d+H:=by grind
 have x2:(d+d'+1)*H=d*(H-1)+d'*(H-1)+d+d'+H:=by grind
 rw[x1] at m1;rw[x2,cT] at m2;have big:H<=(x-q*z)*A+(y-q*w)*B:=by rw[t1];lia
 exact⟨.step q t L0 J (by rw[t1,t2];lia) hq,big⟩
theorem Lg {m c d:Int}(u v:Int)(e:m*u-v*c=1\/m*u-v*c=-1)(hm:d∣v)(hc:d∣u):d∣1:=by
 have:d∣m*u-v*c:=bp (ax hc) (aD hm);rcases e with e | e
 .rwa [e] at this
 .rw[e] at this;exact eM.mp this
theorem St.QZ {one other r0 r1 c0 c1:Int}(h:St one other r0 r1 c0 c1)(h1:0<one){s t k:Int}(hs:0<s)(e:s*other=t+k*one)(BF:Int.gcd s t=1)
  (small:t.natAbs*c1.natAbs+s*r1<one):(c1=s/\r1=t)\/(c1=-s/\r1=-t):=by
 obtain⟨p0,p1,sg,m0,m1,e0,e1,d⟩:=h;have z1:s*r1-t*c1=(s*m1+c1*k)*one:=by
  have:s*r1=s*m1*one+c1*(s*other):=by rw[e1];grind
  rw[this,e];grind
 have ab:((s*r1-t*c1).natAbs:Int)<one:=by
  have a1:((s*r1-t*c1).natAbs:Int)<=(s*r1).natAbs+(t*c1).natAbs:=kg;have a2:((s*r1).natAbs:Int)=s*r1:=by have:=bI (show 0<=s by lia) p1;lia
  have a3:((t*c1).natAbs:Int)=t.natAbs*c1.natAbs:=by rw[aR,aP]
  lia
 have z2:s*m1+c1*k=0:=by
  rw[z1] at ab;rcases Int.lt_trichotomy (s*m1+c1*k) 0 with g | g | g
  .have:=aq (show s*m1+c1*k<=-1 by lia) (show 0<=one by lia);lia
  .exact g
  .have:=aq (show 1<=s*m1+c1*k by lia) (show 0<=one by lia);lia
 rw[z2,bn] at z1
 -- s divides c1
 have sd:s∣c1:=by
  have:s∣t*c1:=⟨r1,J⟩;have YA:Nat.Coprime s.natAbs t.natAbs:=BF;have:=bi.mpr this;rw[aR] at this;exact bi.mp (YA.dvd_of_dvd_mul_left this)
 obtain⟨f,hf⟩:=sd;have er:r1=t*f:=by
  refine aT (show s≠0 by lia) ?_;rw[hf] at z1;grind
 have em:m1=-(f*k):=by
  refine aT (show s≠0 by lia) ?_;rw[hf] at z2;grind
 have f1:f∣1:=Lg (m:=m0) (c:=c0) c1 m1 d (by rw[em];exact eM.mpr (dh ..)) (by rw[hf];exact gh ..);have fb:=bi.mpr f1;have fle:=gR O fb;have f0:f≠0:=fun z=>by rw[z] at f1;have:=gC.mp f1;lia
 have:f=1\/f=-1:=by
  have:f.natAbs<=1:=fle;lia
 rcases this with z | z
 .left;rw[z,b3] at hf er;exact⟨hf,er⟩
 .right;rw[z] at hf er;exact⟨J,J⟩
theorem Tn.c0 {one other r0 r1 c0 c1 x y z w:Int}(t:Tn r0 r1 x y z w)(h:St one other r0 r1 c0 c1)(o1:0<=one)(p0:1<=r0)(ne:¬(x=1/\y=0/\z=0/\w=1)) :
  ((x*c0+y*c1).natAbs:Int)<=one/\1<=x*r0+y*r1/\x*r0+y*r1<=r1:=by
 cases t with
 | one=>exact absurd ⟨Z,Z,Z,Z⟩ ne
 | @step a b _ _ q t p n l hq =>
  have s:=t.st h;have c:=s.Bv o1;have le:=t.le;refine⟨?_,J,kg⟩;have a1:1<=a*r0+b*r1:=by
   cases t with
   | one=>lia
   | step q t p n l hq=>lia
  have q1:=bI s.p1 (show (0:Int)<=(a*c0+b*c1).natAbs by lia);have q2:=aq a1 (show (0:Int)<=(x*c0+y*c1).natAbs by lia);lia
theorem St.c1 {one other r0 r1 c0 c1:Int}(h:St one other r0 r1 c0 c1)(o1:0<=one)(p0:1<=r0):(c1.natAbs:Int)<=one:=by
 have c:=h.Bv o1;have q1:=bI h.p1 (show (0:Int)<=c0.natAbs by lia);have q2:=aq p0 (show (0:Int)<=c1.natAbs by lia);lia
theorem St.dvd {one other r0 r1 c0 c1:Int}(h:St one other r0 r1 c0 c1)(z:r1=0):r0∣one/\r0∣other:=by
 obtain⟨m0,m1,e0,e1,d⟩:=h.m;rw[z] at e1;constructor
 .rcases d with d | d
  .refine⟨c1,?_⟩;rw[e0];have:(m0*c1-m1*c0)*one=one:=by rw[d,cY]
   have e:c0*(m1*one+c1*other)=0:=by rw[<-e1,bw]
   grind
  .refine⟨-c1,?_⟩;rw[e0];have:(m0*c1-m1*c0)*one=-one:=by rw[d];lia
   have e:c0*(m1*one+c1*other)=0:=by rw[<-e1,bw]
   grind
 .rcases d with d | d
  .refine⟨-m1,?_⟩;rw[e0];have:(m0*c1-m1*c0)*other=other:=by rw[d,cY]
   have e:m0*(m1*one+c1*other)=0:=by rw[<-e1,bw]
   grind
  .refine⟨m1,?_⟩;rw[e0];have:(m0*c1-m1*c0)*other=-other:=by rw[d];lia
   have e:m0*(m1*one+c1*other)=0:=by rw[<-e1,bw]
   grind
theorem St.Mz {one other r0 r1 c0 c1:Int}(h:St one other r0 r1 c0 c1)(lt:r1<one):c1≠0:=fun z=>by
 obtain⟨m0,m1,e0,e1,d⟩:=h.m;rw[z] at e1 d;have u:m1*c0=1\/m1*c0=-1:=kg;have m1u:m1=1\/m1=-1:=by
  have n:m1.natAbs*c0.natAbs=1:=by
   rw[<-aR];rcases u with u | u<;>rw[u]<;>rfl
  have:=Nat.eq_one_of_mul_eq_one_right n;lia
 have p1:=h.p1;rcases m1u with y | y<;>rw[y] at e1<;>lia
theorem St.back {n st c0 c1:Int}(h:St n (st%n) 1 0 c0 c1)(n1:1<=n):1<=(c0-1)%n+1/\(c0-1)%n+1<=n/\n∣st*((c0-1)%n+1)-1:=by
 have a:=aE (c0-1) (show n≠0 by lia);have b:=aA (c0-1) (show 0<n by lia);refine⟨J,J,?_⟩;obtain⟨m0,m1,e0,e1,d⟩:=h.m;have e:(c0-1)%n=c0-1-n*((c0-1)/n):=jc ..;have f:st%n=st-n*(st/n):=jc ..;rw[f] at e0;rw[e];refine⟨-m0+c0*(st/n)-st*((c0-1)/n),?_⟩;grind
end Eb
open Eb renaming St→zdf
namespace Lt
variable {one other:List Int}{k:Nat}
abbrev g (v:List Int)(i:Nat):Int:=v.getD i 0
def mix (one:List Int)(a:Int)(other:List Int)(b m:Int):List Int:=List.zipWith (fun x y=>(x*a+y*b)%m) one other
theorem uf {K:Nat}(h1:one.length=K)(h2:other.length=K)(a b m:Int):(mix one a other b m).length=K:=by unfold mix;rw[List.length_zipWith,h1,h2,Nat.min_self]
theorem pP {K:Nat}(h1:one.length=K)(h2:other.length=K)(a b m:Int)(i:Nat):g (mix one a other b m) i=(g one i*a+g other i*b)%m:=by
 unfold g mix;rw[ao,ao,ao,cm]
 by_cases c:i<K
 .rw[az J,az J];rfl
 .rw[cG J,cG J];show (0:Int)=(0*a+0*b)%m
  rw[bn,bn,dF,eO]
def dt (k:Nat)(v:List Int)(a:Int->Int):Int:=zab k fun i=>g v i.toNat*a i
theorem oC {m:Int}{F G:Int->Int}:∀{k:Nat},(∀i:Nat,i<k->m∣F i-G i)->m∣zab k F-zab k G
 | 0,_=>by show m∣(0:Int)-0;exact bq _
 | k+1,h=>by
  have a:=oC (k:=k) fun i hi=>h i (bK hi);have b:=h k (bO k);show m∣(zab k F+F k)-(zab k G+G k)
  rw[show (zab k F+F k)-(zab k G+G k)=(zab k F-zab k G)+(F k-G k) by lia];exact bT a b
theorem oK {m x y:Int}(h:m∣x-y):m∣x↔m∣y:=by
 constructor
 .intro d;have:=bp d h;rwa [show x-(x-y)=y by lia] at this
 .intro d;have:=bT d h;rwa [show y+(x-y)=x by lia] at this
theorem mK (x m:Int):m∣x%m-x:=by
 have:=bP x m;exact⟨-(x/m),by rw[fY];lia⟩
theorem AD {K:Nat}(h1:one.length=K)(h2:other.length=K)(a b m:Int)(k:Nat)(w:Int->Int):m∣dt k (mix one a other b m) w-(a*dt k one w+b*dt k other w):=by
 have e:a*dt k one w+b*dt k other w=zab k fun i=>a*(g one i.toNat*w i)+b*(g other i.toNat*w i):=by
  unfold dt;rw[zax,zaj,zaj]
 rw[e];refine oC fun i _=>?_;rw[pP h1 h2];obtain⟨z,hz⟩:=mK (g one (i:Int).toNat*a+g other (i:Int).toNat*b) m;refine⟨z*w i,?_⟩;have:(g one (i:Int).toNat*a+g other (i:Int).toNat*b)%m=m*z+(g one (i:Int).toNat*a+g other (i:Int).toNat*b):=J;rw[this];grind
inductive Ent (m:Int):Nat->List (List Int)->List Int->List (List Int)->Prop where
 | nil {c:Nat}{left:List Int}:Ent m c [] left []
 | skip {c:Nat}{l left:List Int}{ls ls':List (List Int)}:g left c=0->Ent m (c+1) ls left ls'->Ent m c (l::ls) left (l::ls')
 | mix {c:Nat}{l left:List Int}{ls ls':List (List Int)}(α β G:Int):g left c≠0->1<=G->G∣g l c->G∣g left c->α*g l c+β*g left c=G ->
   Ent m (c+1) ls (mix left (g l c/G) l (-(g left c/G)) m) ls'->Ent m c (l::ls) left (mix l α left β m::ls')
def CA (m:Int)(K:Nat):Nat->List (List Int)->Prop
 | _,[]=>iG
 | c,l::ls=>(l.length=K/\(∀i,i<c->g l i=0)/\1<=g l c/\g l c∣m)/\CA m K (c+1) ls
structure Lf (m:Int)(K c:Nat)(left:List Int):Prop where
 len:left.length=K
 zero:∀i,i<c->g left i=0
 AM:∀i,0<=g left i/\g left i<m
theorem Lf.next {m:Int}{K c:Nat}{left:List Int}(h:Lf m K c left)(z:g left c=0):Lf m K (c+1) left :=
 ⟨h.len,fun i hi=>(by rcases Nat.lt_succ_iff_lt_or_eq.mp hi with y | y;exact h.zero i y;rw[y];exact z),h.AM⟩
theorem Lf.mixed {m:Int}(hm:1<=m){K c:Nat}{l left:List Int}(h:Lf m K c left)(ll:l.length=K)(lz:∀i,i<c->g l i=0){G:Int}(hG:1<=G)(d1:G∣g l c)(d2:G∣g left c):Lf m K (c+1) (mix left (g l c/G) l (-(g left c/G)) m):=by
 refine⟨uf h.len ll _ _ _,fun i hi=>?_,fun i=>?_⟩
 .rw[pP h.len ll];rcases Nat.lt_succ_iff_lt_or_eq.mp hi with y | y
  .rw[h.zero i y,lz i y,bn,bn,dF,eO]
  .rw[y];obtain⟨x,hx⟩:=d1;obtain⟨z,hz⟩:=d2;have:g left c*(g l c/G)+g l c * -(g left c/G)=0:=by
    rw[hx,hz,aG _ J,aG _ J];grind
   rw[this,eO]
 .rw[pP h.len ll];exact⟨aE _ J,aA _ J⟩
theorem Ent.Dm {m:Int}(hm:1<=m){K:Nat}:∀{c:Nat}{ls:List (List Int)}{left:List Int}{ls':List (List Int)},Ent m c ls left ls'->CA m K c ls->Lf m K c left->CA m K c ls'/\ls'.length=ls.length:=by
 intro c ls left ls' h
 induction h with
 | nil=>intro _ _;exact⟨trivial,Z⟩
 | skip z _ ih =>
  intro t f;have:=ih t.2 (f.next z);exact⟨⟨t.1,this.1⟩,by rw[bE,bE,this.2]⟩
 | @mix c l left ls ls' α β G nz G1 d1 d2 e _ ih =>
  intro t f;obtain⟨⟨ll,lz,l1,lm⟩,t2⟩:=t;have:=ih t2 (f.mixed hm ll lz G1 d1 d2);have rg:=f.AM c;have Gle:G<=g left c:=aW J d2;refine⟨⟨⟨uf ll f.len _ _ _,fun i hi=>?_,?_,?_⟩,this.1⟩,by rw[bE,bE,this.2]⟩
  .rw[pP ll f.len,lz i hi,f.zero i hi,bn,bn,dF,eO]
  .rw[pP ll f.len,show g l c*α+g left c*β=G by rw[aC,aC (g left c)];exact e,aX J J];exact G1
  .rw[pP ll f.len,show g l c*α+g left c*β=G by rw[aC,aC (g left c)];exact e,aX J J];exact bJ d1 lm
def Fo (m:Int)(k:Nat)(a:Int->Int)(ls:List (List Int)):Prop:=∀l∈ls,m∣dt k l a
theorem back {m:Int}{K:Nat}{l left:List Int}(ll:l.length=K)(fl:left.length=K){α β x d:Int}(e:α*d+β*x=1)(a:Int->Int)
 (h1:m∣dt k (mix l α left β m) a)(h2:m∣dt k (mix left d l (-x) m) a):m∣dt k l a/\m∣dt k left a:=by
  have a1:=(oK (AD ll fl α β m k a)).mp h1;have a2:=(oK (AD fl ll d (-x) m k a)).mp h2;generalize dt k l a=u at *;generalize dt k left a=v at *;constructor
  · have b1:m∣d*(α*u+β*v):=ax a1
    have b2:m∣β*(d*v + -x*u):=ax a2;have:=bp b1 b2;rwa [show d*(α*u+β*v)-β*(d*v + -x*u)=(α*d+β*x)*u by grind,e,Int.one_mul] at this
  · have b1:m∣x*(α*u+β*v):=ax a1
    have b2:m∣α*(d*v + -x*u):=ax a2;have:=bT b1 b2;rwa [show x*(α*u+β*v)+α*(d*v + -x*u)=(α*d+β*x)*v by grind,e,Int.one_mul] at this
theorem D3 {α β G u v:Int}(hG:1<=G)(d1:G∣u)(d2:G∣v)(e:α*u+β*v=G):α*(u/G)+β*(v/G)=1:=by
 obtain⟨x,rfl⟩:=d1;obtain⟨y,rfl⟩:=d2;rw[aG _ J,aG _ J];refine aT (show G≠0 by lia) ?_;rw[b3];have:G*(α*x+β*y)=α*(G*x)+β*(G*y):=by grind
 rw[this];exact e
theorem Kw {v:List Int}(h:∀i,i<k->g v i=0)(a:Int->Int):dt k v a=0:=by
 unfold dt;rw[zad (G:=fun _=>0) fun i hi=>by rw[ae,h i hi,bn]];exact zbj k
theorem Ent.kill {m:Int}(hm:1<=m){K:Nat}(a:Int->Int):∀{c:Nat}{ls:List (List Int)}{left:List Int}{ls':List (List Int)},Ent m c ls left ls'->CA m K c ls->Lf m K c left->c+ls.length=k->Fo m k a ls'->Fo m k a ls/\m∣dt k left a:=by
 intro c ls left ls' h
 induction h with
 | nil =>
  intro _ f e _;refine⟨fun l hl=>(nomatch hl),?_⟩;rw[Kw (fun i hi=>f.zero i (by simp at e;lia)) a];exact Int.dvd_zero _
 | @skip c l left ls ls' z _ ih =>
  intro t f e kl;have:=ih t.2 (f.next z) (by rw[bE] at e;lia) fun y hy=>kl y (ar _ hy);refine⟨fun y hy=>?_,this.2⟩;rcases List.mem_cons.mp hy with w | w
  .rw[w];exact kl l av
  .exact this.1 y w
 | @mix c l left ls ls' α β G nz G1 d1 d2 eb _ ih =>
  intro t f e kl;obtain⟨⟨ll,lz,l1,lm⟩,t2⟩:=t;have r:=ih t2 (f.mixed hm ll lz G1 d1 d2) (by rw[bE] at e;lia) fun y hy=>kl y (ar _ hy);have b:=back (k:=k) ll f.len (D3 G1 d1 d2 eb) a (kl _ av) r.2;refine⟨fun y hy=>?_,b.2⟩;rcases List.mem_cons.mp hy with w | w
  .rw[w];exact b.1
  .exact r.1 y w
def Lh (m:Int)(k:Nat):Nat->List (List Int)->Prop
 | _,[]=>iG
 | c,l::ls=>(∀a:Int->Int,Fo m k a ls->m∣m/g l c*dt k l a)/\Lh m k (c+1) ls
theorem Ent.how {m:Int}(hm:1<=m){K:Nat}:∀{c:Nat}{ls:List (List Int)}{left:List Int}{ls':List (List Int)},Ent m c ls left ls'->CA m K c ls->Lf m K c left->c+ls.length=k->Lh m k c ls->Lh m k c ls':=by
 intro c ls left ls' h
 induction h with
 | nil=>intro _ _ _ _;trivial
 | @skip c l left ls ls' z en ih =>
  intro t f e hw;refine⟨fun a kl=>?_,ih t.2 (f.next z) (by rw[bE] at e;lia) hw.2⟩;exact hw.1 a (en.kill hm a t.2 (f.next z) (by rw[bE] at e;lia) kl).1
 | @mix c l left ls ls' α β G nz G1 d1 d2 eb en ih =>
  intro t f e hw;obtain⟨⟨ll,lz,l1,lm⟩,t2⟩:=t;have f2:=f.mixed hm ll lz G1 d1 d2;have e2:c+1+ls.length=k:=by rw[bE] at e;lia
  refine⟨fun a kl=>?_,ih t2 f2 e2 hw.2⟩;obtain⟨k1,k2⟩:=en.kill hm a t2 f2 e2 kl;have o:=hw.1 a k1;have rg:=f.AM c;have Gle:G<=g left c:=aW J d2;have eG:g (Lt.mix l α left β m) c=G:=by
   rw[pP ll f.len,show g l c*α+g left c*β=G by rw[aC,aC (g left c)];exact eb,aX J J]
  rw[eG];have q1:=AD ll f.len α β m k a;have q2:=(oK (AD f.len ll (g l c/G) (-(g left c/G)) m k a)).mp k2;have bz:=D3 G1 d1 d2 eb;obtain⟨d,hd⟩:=d1;obtain⟨x,hx⟩:=d2;obtain⟨r,hr⟩:=lm;have dG:g l c/G=d:=by rw[hd];exact aG _ J
  have xG:g left c/G=x:=by rw[hx];exact aG _ J
  have mr:m/g l c=r:=by rw[hr];exact aG _ J
  have mG:m/G=d*r:=by
   rw[hr,hd,aK];exact aG _ J
  rw[dG,xG] at q2 bz;rw[mr] at o;rw[mG];have q3:m∣d*r*(dt k (Lt.mix l α left β m) a-(α*dt k l a+β*dt k left a)):=ax q1;generalize dt k (Lt.mix l α left β m) a=n at *;generalize dt k l a=u at *;generalize dt k left a=v at *;have q4:m∣r*β*(d*v + -x*u):=ax q2;have:=bT (bT q3 q4) o;have ee:d*r*(n-(α*u+β*v))+r*β*(d*v + -x*u)+r*u=d*r*n+r*u*(1-(α*d+β*x)):=by grind
  rw[ee,bz,cC,bw,dF] at this;exact this
end Lt
open Lt renaming g→zai, mK→zbo, mix→zcf, oC→zcv, dt→zde
namespace Mx
variable {M:Int->Int->Int}
open Lt (oC oK mK)
theorem vA {m:Int}{F:Int->Int}:∀{k:Nat},(∀i:Nat,i<k->m∣F i)->m∣zab k F
 | 0,_=>bq _
 | k+1,h=>bT (vA (k:=k) fun i hi=>h i (bK hi)) (h k (bO k))
def vZ (p:Int)(k:Nat)(M:Int->Int->Int):Prop:=∀y:Int->Int,(∀t:Nat,t<k->p∣zab k fun s=>y s*M s t)->∀s:Nat,s<k->p∣y s
theorem oI {p a b:Int}(hp:zak p)(h:p∣a*b)(na:¬p∣a):p∣b:=by
 have c:=Pt.K8 hp na;have h1:=bi.mpr h;rw[aR] at h1;exact bi.mp (eQ c h1)
theorem vZ.snoc {p:Int}(hp:zak p){k:Nat}(h:vZ p k M){x:Int->Int}(z:∀t:Nat,t<k->p∣M k t-zab k fun s=>x s*M s t)(nz:¬p∣M k k-zab k fun s=>x s*M s k):vZ p (k+1) M:=fun y hy=>by
 have e:∀t:Int,(zab (k+1) fun s=>y s*M s t)=(zab k fun s=>(y s+y k*x s)*M s t)+y k*(M k t-zab k fun s=>x s*M s t):=fun t=>by
  show (zab k fun s=>y s*M s t)+y k*M k t=_
  have:(zab k fun s=>(y s+y k*x s)*M s t)=(zab k fun s=>y s*M s t)+y k*(zab k fun s=>x s*M s t):=by
   rw[<-zaj,<-zax];exact zad fun s _=>by grind
  rw[this];grind
 have h1:=h (fun s=>y s+y k*x s) fun t ht=>by
  have a:=hy t (bK ht);rw[e] at a;have b:p∣y k*(M k t-zab k fun s=>x s*M s t):=ax (z t ht);have:=bp a b;rwa [show ∀u v:Int,u+v-v=u from fun u v=>by lia] at this
 have yk:p∣y k:=by
  have a:=hy k (bO k);rw[e] at a;have b:p∣zab k fun s=>(y s+y k*x s)*M s k:=vA fun s hs=>aD (h1 s hs);have c:=bp a b;rw[show ∀u v:Int,u+v-u=v from fun u v=>by lia,aC] at c;exact oI hp c nz
 intro s hs;rcases Nat.lt_succ_iff_lt_or_eq.mp hs with q | q
 .have a:=h1 s q;have b:p∣y k*x s:=aD yk;have:=bp a b;rwa [show y s+y k*x s-y k*x s=y s by lia] at this
 .rw[q];exact yk
theorem vZ.zero (p:Int)(M:Int->Int->Int):vZ p 0 M:=fun y _ s hs=>absurd hs (bx _)
theorem vZ.pow {p:Int}(p1:1<=p){k:Nat}{M:Int->Int->Int}(h:vZ p k M):∀(e:Nat)(y:Int->Int),(∀t:Nat,t<k->p^e∣zab k fun s=>y s*M s t)->∀s:Nat,s<k->p^e∣y s
 | 0,y,_,s,_=>by rw[eY];exact gn _
 | e+1,y,hy,s,hs=>by
  have y1:=h y fun t ht=>bJ ⟨p^e,by rw[bu,aC]⟩ (hy t ht)
  -- y is p times Pu
  have q:∀s:Nat,s<k->y s=p*(y s/p):=fun s hs=>(cZ (y1 s hs)).symm;have r:=vZ.pow p1 h e (fun s=>y s/p) (fun t ht=>by
   obtain⟨c,hc⟩:=hy t ht;have e1:(zab k fun s=>y s*M s t)=p*zab k fun s=>y s/p*M s t:=by
    rw[<-zaj];refine zad fun s hs=>?_;rw[<-aK,<-q s hs]
   rw[e1] at hc;refine⟨c,aT (show p≠0 by lia) ?_⟩;rw[hc,bu];grind) s hs
  obtain⟨c,hc⟩:=r;refine⟨c,?_⟩;rw[q s hs,hc,bu];grind
def LI (m:Int)(k:Nat)(U M:Int->Int->Int):Prop:=∀i j:Nat,i<k->j<k->m∣(zab k fun t=>U i t*M t j)-if i=j then 1 else 0
theorem mY {k:Nat}{F:Int->Int}{j:Nat}(hj:j<k):(zab k fun t=>F t*if t=(j:Int) then 1 else 0)=F j:=by
 have:(zab k fun t=>F t*if t=(j:Int) then 1 else 0)=zab k fun t=>if t=(j:Int) then F t else 0:=zad fun t _=>by
  by_cases c:(t:Int)=j
  .rw[aB c,aB c,b3]
  .rw[ak c,ak c,bw]
 rw[this,Ld.Cb J,aB J]
theorem LI.right {p:Int}(p1:1<=p){e k:Nat}{U:Int->Int->Int}(h:LI (p^e) k U M)(ind:vZ p k M):∀i j:Nat,i<k->j<k->p^e∣(zab k fun t=>M i t*U t j)-if i=j then 1 else 0:=fun i j hi hj=>by
 have key:∀t:Nat,t<k->p^e∣zab k fun s=>((zab k fun u=>M i u*U u s)-if (i:Int)=s then 1 else 0)*M s t:=fun t ht=>by
  -- (M U-1) M=M (U M)-M
  have e1:(zab k fun s=>((zab k fun u=>M i u*U u s)-if (i:Int)=s then 1 else 0)*M s t)=(zab k fun u=>M i u*zab k fun s=>U u s*M s t)-M i t:=by
   have a1:(zab k fun s=>((zab k fun u=>M i u*U u s)-if (i:Int)=s then 1 else 0)*M s t)=(zab k fun s=>zab k fun u=>M i u*(U u s*M s t))+zab k fun s=>-1*(M s t*if s=(i:Int) then 1 else 0):=by
    rw[<-zax];refine zad fun s _=>?_;rw[cT,<-zcg];have:(zab k fun u=>M i u*U u s*M s t)=zab k fun u=>M i u*(U u s*M s t):=zad fun u _=>aK ..;rw[this]
    by_cases c:(s:Int)=i
    .rw[aB c.symm,aB c];lia
    .rw[ak (fun z=>c z.symm),ak c];lia
   rw[a1,zbf,zaj,mY hi];have:(zab k fun u=>zab k fun s=>M i u*(U u s*M s t))=zab k fun u=>M i u*zab k fun s=>U u s*M s t:=zad fun u _=>by rw[zaj]
   rw[this];lia
  rw[e1];have e2:M i t=zab k fun u=>M i u*if u=(t:Int) then 1 else 0:=(mY ht).symm;rw[e2];refine oC fun u hu=>?_;rw[<-cS];refine ax ?_;have:=h u t hu ht
  by_cases c:u=t
  .rw[aB c] at this;rw[aB J];exact this
  .rw[ak c] at this;rw[ak J];exact this
 have z:p^e∣(zab k fun t=>M i t*U t j)-if (i:Int)=j then 1 else 0:=ind.pow p1 e (fun s=>(zab k fun u=>M i u*U u s)-if (i:Int)=s then 1 else 0) key j hj
 by_cases c:i=j
 .rw[aB c];rwa [aB J] at z
 .rw[ak c];rwa [ak J] at z
end Mx
namespace Pg
theorem xJ:∀{M N:Nat}(f:Nat->Nat),M<N->(∀i,i<N->f i<M)->∃i j,i<j/\j<N/\f i=f j
 | 0,N,f,h,lt=>absurd (lt 0 h) (bx _)
 | M+1,0,f,h,lt=>absurd h (bx _)
 | M+1,N+1,f,h,lt=>by
  -- the value of the last one is taken out
  by_cases c:∃i,i<N/\f i=f N
  .obtain⟨i,hi,e⟩:=c;exact⟨i,N,hi,bO N,e⟩
  .let g:Nat->Nat:=fun i=>if f i=M then f N else f i
   have gl:∀i,i<N->g i<M:=fun i hi=>by
    have a:=lt i (bK hi);have b:=lt N (bO N);show (if f i=M then f N else f i)<M
    by_cases z:f i=M
    .rw[aB z];have:f N≠M:=fun y=>c ⟨i,hi,z.trans y.symm⟩;lia
    .rw[ak z];lia
   obtain⟨i,j,ij,jN,e⟩:=xJ g (show M<N by lia) gl;refine⟨i,j,ij,bK jN,?_⟩;have e':(if f i=M then f N else f i)=if f j=M then f N else f j:=e
   by_cases zi:f i=M
   .by_cases zj:f j=M
    .rw[zi,zj]
    .rw[aB zi,ak zj] at e';exact absurd ⟨j,jN,e'.symm⟩ c
   .by_cases zj:f j=M
    .rw[ak zi,aB zj] at e';exact absurd ⟨i,i7 ij jN,e'⟩ c
    .rwa [ak zi,ak zj] at e'
theorem least {P:Nat->Prop}:∀{n:Nat},P n->∃k,P k/\∀j,j<k->¬P j:=by
 intro n
 induction n using Nat.strongRecOn with
 | ind n ih =>
  intro h
  by_cases c:∃j,j<n/\P j
  .obtain⟨j,jn,hj⟩:=c;exact ih j jn hj
  .exact⟨n,h,fun j jn hj=>c ⟨j,jn,hj⟩⟩
def sq (N:Nat):Nat->Nat->Nat
 | 0,x=>x
 | k+1,x=>sq N k (x*x%N)
end Pg
namespace Sg
def enc (R:Nat):Nat->(Nat->Nat)->Nat
 | 0,_=>0
 | k+1,e=>enc R k e+R^k*e k
theorem u8 {R:Nat}{e:Nat->Nat}:∀{k:Nat},(∀i,i<k->e i<R)->enc R k e<R^k
 | 0,_=>by rw[iw];exact Nat.one_pos
 | k+1,h=>by
  have a:=u8 (k:=k) fun i hi=>h i (bK hi);have b:=eR (R^k) (show e k+1<=R from h k (bO k));show enc R k e+R^k*e k<R^(k+1)
  rw[dQ];rw[Nat.mul_succ] at b;omega
theorem wj {R:Nat}{e f:Nat->Nat}:∀{k:Nat},(∀i,i<k->e i<R)->(∀i,i<k->f i<R)->enc R k e=enc R k f->∀i,i<k->e i=f i
 | 0,_,_,_,i,hi=>absurd hi (bx _)
 | k+1,he,hf,h,i,hi=>by
  have a:=u8 (k:=k) fun i hi=>he i (bK hi);have b:=u8 (k:=k) fun i hi=>hf i (bK hi);have p:0<R^k:=kg;have h':enc R k e+R^k*e k=enc R k f+R^k*f k:=h;have ek:e k=f k:=by
   have:(enc R k e+R^k*e k)/R^k=(enc R k f+R^k*f k)/R^k:=by rw[h']
   rwa [jr _ _ p,jr _ _ p,jK a,jK b,dY,dY] at this
  rcases Nat.lt_succ_iff_lt_or_eq.mp hi with z | z
  .refine wj (k:=k) (fun i hi=>he i (bK hi)) (fun i hi=>hf i (bK hi)) ?_ i z;rw[ek] at h';lia
  .rw[z];exact ek
def dig (b n j:Nat):Nat:=n/b^j%b
theorem zN {b:Nat}(hb:0<b):∀{k n m:Nat},n<b^k->m<b^k->(∀j,j<k->dig b n j=dig b m j)->n=m
 | 0,n,m,hn,hm,_=>by rw[iw] at hn hm;lia
 | k+1,n,m,hn,hm,h=>by
  have h0:=h 0 (jd k);unfold dig at h0;rw[iw,Nat.div_one,Nat.div_one] at h0;have h1:n/b=m/b:=by
   refine zN hb (k:=k) ?_ ?_ fun j hj=>?_
   .rw[dQ,f9] at hn;exact hV hn
   .rw[dQ,f9] at hm;exact hV hm
   .have:=h (j+1) (jL hj);unfold dig at this ⊢;rw[je,je,f9 b,<-dQ];exact this
  rw[<-g7 n b,<-g7 m b,h0,h1]
theorem yo {F:Int->Int}{B:Nat}:∀{m:Nat},(∀j:Nat,j<m->(F j).natAbs<=B)->(zab m F).natAbs<=m*B
 | 0,_=>by simp[zab]
 | m+1,h=>by
  have a:=yo (m:=m) fun j hj=>h j (bK hj);have b:=h m (bO m);show (zab m F+F m).natAbs<=(m+1)*B
  rw[gZ];omega
def vk (k C:Nat):Nat:=(2*((k+1)*C)+1)^k
theorem Np (k C:Nat)(hC:1<=C)(a:Nat->Int->Int)(ha:∀i j:Nat,i<k->j<k+1->(a i j).natAbs<=C) :
  ∃x:Int->Int,(∃j:Nat,j<k+1/\x j≠0)/\(∀j:Nat,(x j).natAbs<=vk k C)/\∀i,i<k->zab (k+1) (fun j=>a i j*x j)=0:=by
 obtain⟨T,hT⟩:∃T,T=vk k C:=⟨_,Z⟩;have T1:1<=T:=by rw[hT];unfold vk;exact Nat.pow_pos J
 obtain⟨S,hS⟩:∃S,S=(k+1)*C*T:=⟨_,Z⟩
 let v:Nat->Int->Int:=fun n j=>(dig (T+1) n j.toNat:Nat)
 let L:Nat->Nat->Int:=fun n i=>zab (k+1) fun j=>a i j*v n j
 have vb:∀n (j:Nat),0<=v n j/\(v n j).natAbs<=T:=fun n j=>by
  have:dig (T+1) n (j:Int).toNat<T+1:=g4 _ J;show 0<=((dig (T+1) n (j:Int).toNat:Nat):Int)/\(((dig (T+1) n (j:Int).toNat:Nat):Int)).natAbs<=T
  omega
 have Lb:∀n i,i<k->(L n i).natAbs<=S:=fun n i hi=>by
  rw[hS,gS];refine yo fun j hj=>?_;rw[aR];exact dr (ha i j hi hj) (vb n j).2
 let e:Nat->Nat->Nat:=fun n i=>(L n i+S).toNat
 have eb:∀n i,i<k->e n i<2*S+1:=fun n i hi=>by
  have:=Lb n i hi;show (L n i+S).toNat<2*S+1
  omega
 have à:(2*S+1)^k<(T+1)^(k+1):=by
  have h1:2*S+1<=(2*((k+1)*C)+1)*T:=by
   rw[hS];generalize (k+1)*C=D;rw[Nat.add_mul,Nat.one_mul,gS];lia
  have h2:=ie h1 k;rw[Nat.mul_pow] at h2;have h3:(2*((k+1)*C)+1)^k=T:=by rw[hT];rfl
  rw[h3] at h2;have h4:T*T^k=T^(k+1):=by rw[dQ,f9]
  rw[h4] at h2;exact cf h2 (ju (bO T) J)
 obtain⟨p,q,pq,qN,eq⟩:=Pg.xJ (fun n=>enc (2*S+1) k (e n)) à fun n _=>u8 (eb n);have same:=wj (eb p) (eb q) eq;refine⟨fun j=>v p j-v q j,?_,fun j=>?_,fun i hi=>?_⟩
 .by_cases c:∃j:Nat,j<k+1/\v p j-v q j≠0
  .exact c
  .exfalso;have:p=q:=zN (b:=T+1) (jd T) (i7 pq qN) qN fun j hj=>by
    have z:v p j-v q j=0:=by
     by_cases y:v p j-v q j=0
     .exact y
     .exact absurd ⟨j,hj,y⟩ c
    have z':((dig (T+1) p (j:Int).toNat:Nat):Int)-((dig (T+1) q (j:Int).toNat:Nat):Int)=0:=z;rw[ae] at z';lia
   omega
 .have a1:=vb p j;have a2:=vb q j;rw[<-hT];show (v p j-v q j).natAbs<=T
  lia
 .have s:=same i hi;have l1:=Lb p i hi;have l2:=Lb q i hi;have s':(L p i+S).toNat=(L q i+S).toNat:=s;have ll:L p i=L q i:=kg;have e1:(zab (k+1) fun j=>a i j*(v p j-v q j))=zab (k+1) fun j=>a i j*v p j + -1*(a i j*v q j):=zad fun j _=>by rw[cS];lia
  rw[e1,zax,zaj];show L p i + -1*L q i=0
  lia
end Sg
open Sg renaming dig→zam, vk→zaw
namespace Mx
variable {p:Int}{k:Nat}{R M:Int->Int->Int}
def CI (p:Int)(k:Nat)(R:Int->Int->Int):Prop:=∀y:Int->Int,(∀i:Nat,i<k->p∣zab k fun t=>R i t*y t)->∀t:Nat,t<k->p∣y t
theorem CI.ind (h:CI p k R):vZ p k (fun s t=>R t s):=fun y hy t ht=>h y (fun i hi=>by
 have:=hy i hi;rwa [zad (G:=fun t=>R i t*y t) fun t _=>aC ..] at this) t ht
theorem vZ.ci (h:vZ p k M):CI p k (fun s t=>M t s):=fun y hy t ht=>h y (fun i hi=>by
 have:=hy i hi;rwa [zad (G:=fun t=>y t*M t i) fun t _=>aC ..] at this) t ht
theorem CI.pow {p:Int}(p1:1<=p){k:Nat}{R:Int->Int->Int}(h:CI p k R)(e:Nat){y:Int->Int}(hy:∀i:Nat,i<k->p^e∣zab k fun t=>R i t*y t):∀t:Nat,t<k->p^e∣y t :=
 h.ind.pow p1 e y fun i hi=>by
  have:=hy i hi;rwa [zad (G:=fun t=>y t*R i t) fun t _=>aC ..] at this
theorem LI.ci {m:Int}{U:Int->Int->Int}(h:LI m k U M)(pm:p∣m):CI p k M:=fun y hy t ht=>by
 have e1:p∣zab k fun i=>U t i*zab k fun j=>M i j*y j:=vA fun i hi=>ax (hy i hi);have e2:(zab k fun i=>U t i*zab k fun j=>M i j*y j)=zab k fun j=>y j*zab k fun i=>U t i*M i j:=by
  have a:(zab k fun i=>U t i*zab k fun j=>M i j*y j)=zab k fun i=>zab k fun j=>y j*(U t i*M i j):=zad fun i _=>by
   rw[<-zaj];exact zad fun j _=>by grind
  rw[a,zbf];exact zad fun j _=>by rw[zaj]
 rw[e2] at e1;have e3:p∣(zab k fun j=>y j*zab k fun i=>U t i*M i j)-zab k fun j=>y j*if j=(t:Int) then 1 else 0:=zcv fun j hj=>by
  rw[<-cS];refine ax (bJ pm ?_);have:=h t j ht hj
  by_cases c:t=j
  .rw[aB c] at this;rw[aB J];exact this
  .rw[ak c] at this;rw[ak J];exact this
 rw[mY ht] at e3;exact(Lt.oK e3).mp e1
theorem z6 {p:Int}(p2:2<=p):∀e:Nat,(e:Int)<p^e
 | 0=>by rw[eY];decide
 | e+1=>by
  have a:=z6 p2 e;have b:=ay p2 (show 0<=p^e by lia);rw[bu];lia
theorem CI.inj (p2:2<=p)(h:CI p k R){y:Int->Int}(hy:∀i:Nat,i<k->(zab k fun t=>R i t*y t)=0)(t:Nat)(ht:t<k):y t=0:=by
 have d:=h.pow J (y t).natAbs (fun i hi=>by rw[hy i hi];exact bq _) t ht;have b:=z6 p2 (y t).natAbs
 by_cases z:y t=0
 .exact z
 .have:=aW (show (0:Int)<(y t).natAbs by lia) (gI.mpr d);lia
theorem zK (hp:zak p){C:Nat}(hC:1<=C){ê:Int->Int}(ci:CI p k R)(hR:∀i t:Nat,i<k->t<k->(R i t).natAbs<=C)(hg:∀i:Nat,i<k->(ê i).natAbs<=C) :
  ∃(x:Int->Int)(s:Int),0<s/\¬p∣s/\(∀i:Nat,i<k->(zab k fun t=>R i t*x t)=s*ê i)/\(∀t:Nat,t<k->(x t).natAbs<=zaw k C)/\s<=zaw k C/\∀d:Int,d∣s->(∀t:Nat,t<k->d∣x t)->d∣1:=by
 have p2:=hp.1;obtain⟨z,⟨j,hj,zj⟩,zb,ze⟩:=Sg.Np k C hC (fun i j=>if j<k then R i j else -ê i) fun i j hi hj=>by
  show (if (j:Int)<k then R i j else -ê i).natAbs<=C
  by_cases c:(j:Int)<k
  .rw[aB c];exact hR i j hi J
  .rw[ak c,hZ];exact hg i hi
 have Pw:∀i:Nat,i<k->(zab k fun t=>R i t*z t)=z k*ê i:=fun i hi=>by
  have a:=ze i hi;have b:(zab (k+1) fun j=>(if j<(k:Int) then R i j else -ê i)*z j)=(zab k fun t=>R i t*z t) + -ê i*z k:=by
   show (zab k fun j=>(if j<(k:Int) then R i j else -ê i)*z j)+(if (k:Int)<k then R i k else -ê i)*z k=_
   rw[ak J,zad (G:=fun t=>R i t*z t) fun t ht=>by rw[aB J]]
  rw[b] at a;have:-ê i*z k=-(z k*ê i):=by grind
  omega
 have zk:z k≠0:=fun q=>by
  have all:=ci.inj p2 (y:=z) fun i hi=>by rw[Pw i hi,q,bn]
  rcases Nat.lt_succ_iff_lt_or_eq.mp hj with y | y
  .exact zj (all j y)
  .rw[y] at zj;exact zj q
 -- the least YB
 obtain⟨s,⟨s0,x,hx⟩,mn⟩:=Pg.least (P:=fun s:Nat=>0<s/\∃x:Int->Int,∀i:Nat,i<k->(zab k fun t=>R i t*x t)=s*ê i) (n:=(z k).natAbs) ⟨J,by
  rcases Int.lt_or_le (z k) 0 with q | q
  .refine⟨fun t=>-1*z t,fun i hi=>?_⟩;have:(zab k fun t=>R i t*(-1*z t))=-1*zab k fun t=>R i t*z t:=by rw[<-zaj];exact zad fun t _=>by grind
   rw[this,Pw i hi,show ((z k).natAbs:Int)=-z k by lia];grind
  .refine⟨z,fun i hi=>?_⟩;rw[Pw i hi,show ((z k).natAbs:Int)=z k by lia]⟩
 have sle:s<=(z k).natAbs:=by
  rcases Nat.lt_or_ge (z k).natAbs s with q | q
  .refine absurd ?_ (mn _ q);refine⟨J,?_⟩;rcases Int.lt_or_le (z k) 0 with q | q
   .refine⟨fun t=>-1*z t,fun i hi=>?_⟩;have:(zab k fun t=>R i t*(-1*z t))=-1*zab k fun t=>R i t*z t:=by rw[<-zaj];exact zad fun t _=>by grind
    rw[this,Pw i hi,show ((z k).natAbs:Int)=-z k by lia];grind
   .refine⟨z,fun i hi=>?_⟩;rw[Pw i hi,show ((z k).natAbs:Int)=z k by lia]
  .exact q
 have one:∀d:Int,d∣(s:Int)->(∀t:Nat,t<k->d∣x t)->d∣1:=fun d ds dx=>by
  have d0:d≠0:=fun q=>by rw[q] at ds;have:=gC.mp ds;lia
  obtain⟨c,hc⟩:=ds
  by_cases q:d.natAbs=1
  .exact bi.mp (by rw[q];exact jf 1)
  .exfalso;have e:s=d.natAbs*c.natAbs:=by have:=cU Int.natAbs hc;rwa [cD,aR] at this
   have c0:0<c.natAbs:=by rcases Nat.eq_zero_or_pos c.natAbs with w | w;(rw[w,Nat.mul_zero] at e;lia);exact w
   have lt:c.natAbs<s:=by
    rw[e];have:2<=d.natAbs:=J;have:=cJ c.natAbs this;lia
   refine mn _ lt ⟨c0,fun t=>(if 0<=c then 1 else -1)*(x t/d),fun i hi=>?_⟩;refine aT d0 ?_;have a:d*(zab k fun t=>R i t*((if 0<=c then 1 else -1)*(x t/d)))=(if 0<=c then 1 else -1)*zab k fun t=>R i t*x t:=by
    rw[<-zaj,<-zaj];refine zad fun t ht=>?_;have:=cZ (dx t ht);generalize x t/d=u at this;rw[<-this];grind
   rw[a,hx i hi,hc]
   by_cases w:0<=c
   .rw[aB w,show (c.natAbs:Int)=c by lia];grind
   .rw[ak w,show (c.natAbs:Int)=-c by lia];grind
 refine⟨x,s,J,fun q=>?_,hx,fun t ht=>?_,?_,one⟩
 .have:p∣1:=one p q fun t ht=>ci x (fun i hi=>by rw[hx i hi];exact aD q) t ht;have:=aW O this;lia
 .-- z k times x is s times z
  have e:=ci.inj p2 (y:=fun t=>z k*x t-s*z t) (fun i hi=>by
   have:(zab k fun t=>R i t*(z k*x t-s*z t))=z k*(zab k fun t=>R i t*x t) + -s*zab k fun t=>R i t*z t:=by
    rw[<-zaj,<-zaj,<-zax];exact zad fun t _=>by grind
   rw[this,hx i hi,Pw i hi];grind) t ht
  have e':z k*x t=s*z t:=by
   have:z k*x t-s*z t=0:=e;lia
  have n:=cU Int.natAbs e';rw[aR,aR,cD] at n;have b:=cJ (z t).natAbs sle;rw[<-n] at b;have:=iP b (show 0<(z k).natAbs by lia);exact bQ this (zb t)
 .have:=zb k;lia
variable {U:Int->Int->Int}
def RI (m:Int)(k:Nat)(R U:Int->Int->Int):Prop:=∀i j:Nat,i<k->j<k->m∣(zab k fun t=>R i t*U t j)-if i=j then 1 else 0
theorem lift {m:Int}{k:Nat}{R:Int->Int->Int}(h:RI m k R U){left more:Int->Int}(hm:∀t:Nat,t<k->m∣more t-zab k fun j=>U t j*left j)(i:Nat)(hi:i<k):m∣left i-zab k fun t=>R i t*more t:=by
 have e1:m∣(zab k fun t=>R i t*more t)-zab k fun t=>R i t*zab k fun j=>U t j*left j:=zcv fun t ht=>by
  rw[<-cS];exact ax (hm t ht)
 have e2:(zab k fun t=>R i t*zab k fun j=>U t j*left j)=zab k fun j=>left j*zab k fun t=>R i t*U t j:=by
  have a:(zab k fun t=>R i t*zab k fun j=>U t j*left j)=zab k fun t=>zab k fun j=>left j*(R i t*U t j):=zad fun t _=>by
   rw[<-zaj];exact zad fun j _=>by grind
  rw[a,zbf];exact zad fun j _=>by rw[zaj]
 have e3:m∣(zab k fun j=>left j*zab k fun t=>R i t*U t j)-zab k fun j=>left j*if j=(i:Int) then 1 else 0:=zcv fun j hj=>by
  rw[<-cS];refine ax ?_;have:=h i j hi hj
  by_cases c:i=j
  .rw[aB c] at this;rw[aB J];exact this
  .rw[ak c] at this;rw[ak J];exact this
 rw[mY hi] at e3;rw[e2] at e1;have:=eM.mpr (bT e1 e3);rwa [show ∀a b c:Int,-(a-b+(b-c))=c-a from fun a b c=>by lia] at this
structure zY (k:Nat)(R:Int->Int->Int)(ê:Int->Int)(scale:Int)(r left:Int->Int):Prop where
 eq:∀i:Nat,i<k->(zab k fun t=>R i t*r t)+scale*left i=ê i
 rg:∀t:Nat,t<k->0<=r t/\r t<scale
theorem zY.start (k:Nat)(R:Int->Int->Int)(ê:Int->Int):zY k R ê 1 (fun _=>0) ê:=⟨fun i _=>by
 rw[zad (G:=fun _=>0) fun t _=>bw _,zbj,dO,cY],fun t _=>⟨dj 0,O⟩⟩
theorem zY.step {m:Int}(hm:1<=m){k:Nat}{R:Int->Int->Int}(ri:RI m k R U){ê:Int->Int}{scale:Int}(hs:1<=scale){r left:Int->Int}(h:zY k R ê scale r left){more oU:Int->Int}(em:∀t:Nat,t<k->more t=(zab k fun j=>U t j*left j)%m)(el:∀i:Nat,i<k->oU i=(left i-zab k fun t=>R i t*more t)/m) :
  zY k R ê (scale*m) (fun t=>r t+scale*more t) oU:=by
 refine⟨fun i hi=>?_,fun t ht=>?_⟩
 .have d:=lift ri (left:=left) (more:=more) (fun t ht=>by rw[em t ht];exact zbo _ _) i hi;have q:=cZ d;rw[<-el i hi] at q;have a:(zab k fun t=>R i t*(r t+scale*more t))=(zab k fun t=>R i t*r t)+scale*zab k fun t=>R i t*more t:=by
   rw[<-zaj,<-zax];exact zad fun t _=>by grind
  rw[a,<-h.eq i hi];generalize (zab k fun t=>R i t*more t)=x at *;rw[aK,q];grind
 .have a:=h.rg t ht;have b0:=aE (zab k fun j=>U t j*left j) (show m≠0 by lia);have b1:=aA (zab k fun j=>U t j*left j) (show 0<m by lia);rw[<-em t ht] at b0 b1;have c0:=bI (show 0<=scale by lia) b0;have c1:=ay (show more t<=m-1 by lia) (show 0<=scale by lia);rw[cS,b3] at c1;show 0<=r t+scale*more t/\r t+scale*more t<scale*m
  lia
theorem zY.rest {p:Int}(p1:1<=p){k:Nat}{R:Int->Int->Int}(ci:CI p k R){ê:Int->Int}{e:Nat}{r left:Int->Int}(h:zY k R ê (p^e) r left){x:Int->Int}{s:Int}(hx:∀i:Nat,i<k->(zab k fun t=>R i t*x t)=s*ê i)(t:Nat)(ht:t<k):p^e∣s*r t-x t :=
 ci.pow p1 e (y:=fun t=>s*r t-x t) (fun i hi=>by
  have:(zab k fun t=>R i t*(s*r t-x t))=s*(zab k fun t=>R i t*r t) + -1*zab k fun t=>R i t*x t:=by
   rw[<-zaj,<-zaj,<-zax];exact zad fun t _=>by grind
  rw[this,hx i hi,<-h.eq i hi];exact⟨-(s*left i),by grind⟩) t ht
theorem sU {p:Int}(hp:zak p){a:Int}(h:¬p∣a):∀(e:Nat){y:Int},p^e∣a*y->p^e∣y
 | 0,y,_=>by rw[eY];exact gn y
 | e+1,y,d=>by
  have p2:=hp.1;have py:p∣y:=oI hp (bJ ⟨p^e,by rw[bu,aC]⟩ d) h;obtain⟨z,hz⟩:=py;obtain⟨c,hc⟩:=d;have:p^e∣a*z:=⟨c,aT (show p≠0 by lia) (by
   rw[hz,bu] at hc;have e1:p*(a*z)=a*(p*z):=by grind
   have e2:p*(p^e*c)=p^e*p*c:=by grind
   rw[e1,e2];exact hc)⟩
  obtain⟨w,hw⟩:=sU hp h e this;exact⟨w,by rw[hz,hw,bu];grind⟩
theorem WS {p:Int}(hp:zak p){e:Nat}{s b r x:Int}(s0:0<s)(ps:¬p∣s)(b0:0<b)(bs:b∣s)(hr:p^e∣s*r-x){B H:Int}(sB:s<=B)(xB:(x.natAbs:Int)<=B)(hH:4*B<=H)(HH:H*H<=p^e)
 {r0 r1 c0 c1:Int}(st:zdf (p^e) (r*b%p^e) r0 r1 c0 c1)(h0:H<=r0)(h1:r1<H):0<(c1.natAbs:Int)/\b*c1.natAbs∣s/\s∣b*c1.natAbs*x:=by
  have p2:=hp.1;have sc:0<p^e:=by have:=z6 (p:=p) kg e;lia
  obtain⟨S1,hS⟩:=bs;have S0:0<S1:=by
    rcases Int.lt_or_le 0 S1 with z | z
    · exact z
    · have:=ay z (show 0<=b by lia);lia
  obtain⟨G,hG⟩:∃G:Nat,G=Int.gcd S1 x:=⟨_,Z⟩;obtain⟨s',Jz⟩:(G:Int)∣S1:=by rw[hG];exact Int.gcd_dvd_left ..
  obtain⟨x',DR⟩:(G:Int)∣x:=by rw[hG];exact Int.gcd_dvd_right ..
  have G0:0<(G:Int):=by
    rcases Nat.eq_zero_or_pos G with z | z
    · rw[z] at Jz;have:S1=0:=by rw[Jz];exact bn _
      lia
    · lia
  have s'0:0<s':=by
    rcases Int.lt_or_le 0 s' with z | z
    · exact z
    · have:=ay z (show 0<=(G:Int) by lia);lia
  have BF:Int.gcd s' x'=1:=by
    rw[Jz,DR,iA,cD] at hG;have:G*1=G*Int.gcd s' x':=by rw[iD];exact hG
    exact(gK (show 0<G by lia) this).symm
  have pG:¬p∣(G:Int):=fun z=>ps (by rw[hS,Jz];exact ax (aD z))
  -- the Sk x'/s' YC this rest
  have d1:p^e∣s'*(r*b%p^e)-x':=by
    have a:p^e∣(G:Int)*(s'*(r*b)-x'):=by
      have:(G:Int)*(s'*(r*b)-x')=s*r-x:=by rw[hS,Jz,DR];grind
      rw[this];exact hr
    have b':=sU hp pG e a;have c:=zbo (r*b) (p^e);have c':p^e∣s'*(r*b%p^e-r*b):=ax c;have:=bT b' c';rwa [show s'*(r*b)-x'+s'*(r*b%p^e-r*b)=s'*(r*b%p^e)-x' by grind] at this
  obtain⟨k,hk⟩:=d1;have s'S:s'<=S1:=by have:=aq (show 1<=(G:Int) by lia) (show 0<=s' by lia);lia
  have Ss:S1<=s:=by have:=aq (show 1<=b by lia) (show 0<=S1 by lia);lia
  have xx:(x'.natAbs:Int)<=B:=by
    have:x.natAbs=G*x'.natAbs:=by rw[DR,aR,cD]
    have:=cJ x'.natAbs (show 1<=G by lia);lia
  have cr:=st.Bv J;have B0:0<=B:=J;have small:(x'.natAbs:Int)*c1.natAbs+s'*r1<p^e:=by
    have q1:=bI st.p1 (show (0:Int)<=c0.natAbs by lia);have q2:H*c1.natAbs<=p^e:=by
      have:=aq h0 (show (0:Int)<=c1.natAbs by lia);lia
    have q3:4*((x'.natAbs:Int)*c1.natAbs)<=H*c1.natAbs:=by
      have:=aq (show 4*(x'.natAbs:Int)<=H by lia) (show (0:Int)<=c1.natAbs by lia);rw[aK] at this;exact this
    have q4:4*(s'*r1)<=H*H:=by
      have a:=cL (show 4*s'<=H by lia) (show r1<=H by lia) st.p1 (show 0<=H by lia);rw[aK] at a;exact a
    lia
  have rc:=st.QZ sc s'0 (show s'*(r*b%p^e)=x'+k*p^e by rw[aC k];lia) BF small;have ca:(c1.natAbs:Int)=s':=by rcases rc with ⟨a,_⟩ | ⟨a,_⟩<;>lia
  rw[ca];exact⟨s'0,⟨G,by rw[hS,Jz];grind⟩,⟨x',by rw[hS,Jz,DR];grind⟩⟩
theorem Ji {k:Nat}{s b:Int}{x:Int->Int}(s0:0<s)(b0:0<b)(bs:b∣s)(all:∀t:Nat,t<k->s∣b*x t)(one:∀d:Int,d∣s->(∀t:Nat,t<k->d∣x t)->d∣1):b=s:=by
 obtain⟨S1,hS⟩:=bs;have d:S1∣1:=one S1 ⟨b,by rw[hS,aC]⟩ fun t ht=>by
  obtain⟨c,hc⟩:=all t ht;refine⟨c,aT (show b≠0 by lia) ?_⟩;rw[hc,hS,aK]
 have S0:0<S1:=by
  rcases Int.lt_or_le 0 S1 with z | z
  .exact z
  .have:=ay z (show 0<=b by lia);lia
 have:=aW O d;have:S1=1:=J;rw[hS,this,b3]
theorem Hl {n m x:Int}(hm:0<m)(h:m∣n-x)(hx:2*(x.natAbs:Int)<m):(if 2*(n%m)<=m then n%m else n%m-m)=x:=by
 have r0:=aE n (show m≠0 by lia);have r1:=aA n hm;have d:m∣n%m-x:=by have:=bT (zbo n m) h;rwa [show n%m-n+(n-x)=n%m-x by lia] at this
 obtain⟨c,hc⟩:=d;have cc:c=0\/c=1:=by
  rcases Int.lt_or_le c 0 with z | z
  .have:=ay (show c<=-1 by lia) (show 0<=m by lia);lia
  .rcases Int.lt_or_le 1 c with y | y
   .have:=ay (show 2<=c by lia) (show 0<=m by lia);lia
   .lia
 rcases cc with z | z
 .rw[z,bw] at hc;rw[aB J];lia
 .rw[z,b3] at hc;rw[ak J];lia
structure Gj (m:Int)(k:Nat)(M:Int->Int->Int)(c:Nat)(A B:Int->Int->Int):Prop where
 rc:∀i j:Nat,i<k->j<k->m∣A i j-zab k fun t=>B i t*M t j
 diag:∀i j:Nat,i<k->j<c->m∣A i j-if i=j then 1 else 0
 sup:∀i t:Nat,i<k->t<k->c<=t->t≠i->m∣B i t
 own:∀i:Nat,i<k->c<=i->m∣B i i-1
theorem Gj.start {m:Int}{k:Nat}{M:Int->Int->Int}:Gj m k M 0 M (fun i t=>if t=i then 1 else 0):=by
 refine⟨fun i j hi hj=>?_,fun i j _ hj=>absurd hj (bx _),fun i t _ _ _ ne=>?_,fun i _ _=>?_⟩
 .have:(zab k fun t=>(if t=(i:Int) then 1 else 0)*M t j)=M i j:=by
   rw[zad (G:=fun t=>M t j*if t=(i:Int) then 1 else 0) fun t _=>aC ..,mY (F:=fun t=>M t j) hi]
  rw[this,cC];exact bq _
 .show m∣if (t:Int)=i then 1 else 0
  rw[ak J];exact bq _
 .show m∣(if (i:Int)=i then 1 else 0)-1
  rw[aB Z];exact bq _
theorem HU {F:Int->Int}{c:Nat}:∀{k:Nat},c<=k->(∀t:Nat,c<=t->t<k->F t=0)->zab k F=zab c F
 | 0,h,_=>by
  have:c=0:=J;rw[this]
 | k+1,h,z=>by
  rcases Nat.lt_or_ge k c with y | y
  .have:c=k+1:=J;rw[this]
  .show zab k F+F k=_
   rw[z k y (bO k),dF];exact HU y fun t ht hk=>z t ht (bK hk)
theorem Gj.P5 {p m:Int}(p2:2<=p)(pm:p∣m){k:Nat}{M:Int->Int->Int}{c:Nat}{A B:Int->Int->Int}(h:Gj m k M c A B)(hc:c<k)(ind:vZ p (c+1) M):¬p∣A c c:=fun d=>by
 have key:=ind (fun t=>B c t) (fun j hj=>by
  have a:=bJ pm (h.rc c j hc J)
  -- only è up to c are in it
  have b:p∣(zab k fun t=>B c t*M t j)-zab (c+1) fun t=>B c t*M t j:=by
   have e:(zab (c+1) fun t=>B c t*M t j)=zab k fun t=>if t<(c+1:Nat) then B c t*M t j else 0:=by
    rw[HU (c:=c+1) (F:=fun t=>if t<((c+1:Nat):Int) then B c t*M t j else 0) hc fun t h1 h2=>ak J];exact zad fun t ht=>by rw[aB J]
   rw[e];refine zcv fun t ht=>?_
   by_cases q:(t:Int)<(c+1:Nat)
   .rw[aB q,cC];exact bq _
   .rw[ak q,dC];exact aD (bJ pm (h.sup c t hc ht J J))
  have aj:p∣A c j:=by
   rcases Nat.lt_succ_iff_lt_or_eq.mp hj with q | q
   .have:=bJ pm (h.diag c j hc q);rwa [ak J,dC] at this
   .rw[q];exact d
  have s:=eM.mpr (bT (bp a aj) b);rwa [show ∀x y z:Int,-(x-y-x+(y-z))=z from fun x y z=>by lia] at s) c (bO c)
 have o:=bJ pm (h.own c hc (aH c));have:=bp key o;rw[show B c c-(B c c-1)=1 by lia] at this;have:=aW O this;lia
theorem Gj.step {m:Int}{k:Nat}{M:Int->Int->Int}{c:Nat}{A B A' B':Int->Int->Int}(h:Gj m k M c A B)(hc:c<k){v:Int}(hv:m∣A c c*v-1)
  (a1:∀j:Nat,j<k->m∣A' c j-A c j*v)(b1:∀t:Nat,t<k->m∣B' c t-B c t*v)
  (a2:∀i j:Nat,i<k->i≠c->j<k->m∣A' i j-(A i j-A i c*(A c j*v)))(b2:∀i t:Nat,i<k->i≠c->t<k->m∣B' i t-(B i t-A i c*(B c t*v))):Gj m k M (c+1) A' B':=by
 refine⟨fun i j hi hj=>?_,fun i j hi hj=>?_,fun i t hi ht ct ne=>?_,fun i hi ci=>?_⟩
 .by_cases q:i=c
  .subst q;have r:=h.rc i j hi hj;have e1:m∣(zab k fun t=>B' i t*M t j)-zab k fun t=>v*(B i t*M t j):=zcv fun t ht=>by
    have:=aD (c:=M t j) (b1 t ht);rwa [show (B' i t-B i t*v)*M t j=B' i t*M t j-v*(B i t*M t j) by grind] at this
   rw[zaj] at e1;have r':m∣v*(A i j-zab k fun t=>B i t*M t j):=ax r;have:=bp (bT (a1 j hj) r') e1;generalize (zab k fun t=>B i t*M t j)=x at *;generalize (zab k fun t=>B' i t*M t j)=y at *;rwa [show A' i j-A i j*v+v*(A i j-x)-(y-v*x)=A' i j-y by grind] at this
  .have r1:=h.rc i j hi hj;have r2:=h.rc c j hc hj;have e1:m∣(zab k fun t=>B' i t*M t j)-zab k fun t=>B i t*M t j + -(A i c*v)*(B c t*M t j):=zcv fun t ht=>by
    have:=aD (c:=M t j) (b2 i t hi q ht);rwa [show (B' i t-(B i t-A i c*(B c t*v)))*M t j=B' i t*M t j-(B i t*M t j + -(A i c*v)*(B c t*M t j)) by grind] at this
   rw[zax,zaj] at e1;have r3:m∣-(A i c*v)*(A c j-zab k fun t=>B c t*M t j):=ax r2;have:=bp (bT (bT (a2 i j hi q hj) r1) r3) e1;generalize (zab k fun t=>B i t*M t j)=x at *;generalize (zab k fun t=>B c t*M t j)=z at *;generalize (zab k fun t=>B' i t*M t j)=y at *;rwa [show A' i j-(A i j-A i c*(A c j*v))+(A i j-x) + -(A i c*v)*(A c j-z)-(y-(x + -(A i c*v)*z))=A' i j-y by grind] at this
 .have T4:j<k:=J
  by_cases q:i=c
  .subst q;rcases Nat.lt_succ_iff_lt_or_eq.mp hj with y | y
   .have d:=h.diag i j hi y;rw[ak J,dC] at d;rw[ak J,dC];have d':m∣A i j*v:=aD d;have:=bT (a1 j T4) d';rwa [show A' i j-A i j*v+A i j*v=A' i j by lia] at this
   .subst y;rw[aB Z];have:=bT (a1 j T4) hv;rwa [show A' j j-A j j*v+(A j j*v-1)=A' j j-1 by lia] at this
  .rcases Nat.lt_succ_iff_lt_or_eq.mp hj with y | y
   .have d1:=h.diag i j hi y;have d2:=h.diag c j hc y;rw[ak (show ¬c=j by lia),dC] at d2;have d3:m∣A i c*(A c j*v):=ax (aD d2);have:=bp (bT (a2 i j hi q T4) d1) d3;generalize (if i=j then (1:Int) else 0)=x at *;rwa [show A' i j-(A i j-A i c*(A c j*v))+(A i j-x)-A i c*(A c j*v)=A' i j-x by lia] at this
   .subst y;rw[ak q,dC];have d3:m∣A i j*(A j j*v-1):=ax hv;have:=bp (a2 i j hi q T4) d3;rwa [show A' i j-(A i j-A i j*(A j j*v))-A i j*(A j j*v-1)=A' i j by grind] at this
 .have dc:=h.sup c t hc ht J J
  by_cases q:i=c
  .subst q;have d':m∣B i t*v:=aD dc;have:=bT (b1 t ht) d';rwa [show B' i t-B i t*v+B i t*v=B' i t by lia] at this
  .have di:=h.sup i t hi ht J ne;have d':m∣A i c*(B c t*v):=ax (aD dc);have:=bp (bT (b2 i t hi q ht) di) d';rwa [show B' i t-(B i t-A i c*(B c t*v))+B i t-A i c*(B c t*v)=B' i t by lia] at this
 .have q:i≠c:=J;have o:=h.own i hi J;have dc:=h.sup c i hc hi J J;have d':m∣A i c*(B c i*v):=ax (aD dc);have:=bp (bT (b2 i i hi q hi) o) d';rwa [show B' i i-(B i i-A i c*(B c i*v))+(B i i-1)-A i c*(B c i*v)=B' i i-1 by lia] at this
theorem Gj.end {m:Int}{k:Nat}{M A B:Int->Int->Int}(h:Gj m k M k A B):LI m k B M:=fun i j hi hj=>by
 have a:=h.rc i j hi hj;have b:=h.diag i j hi hj;have:=bp b a;rwa [show ∀x y z:Int,x-y-(x-z)=z-y from fun x y z=>by lia] at this
structure FW (p:Int)(w:Nat)(ã:Nat->Int->Int)(k:Nat)(num col:Nat->Nat)(row:Nat->Int->Int):Prop where
 colw:∀t,t<k->col t<w
 one:∀t,t<k->p∣row t (col t)-1
 zero:∀s t,s<t->t<k->p∣row t (col s)
 span:∀t,t<k->∃l:Int->Int,∀c:Nat,c<w->p∣row t c-zab k fun s=>l s*ã (num s.toNat) c
 ind:∀c,c<=k->vZ p c (fun s t=>ã (num s.toNat) (col t.toNat))
theorem FW.start (p:Int)(w:Nat)(ã:Nat->Int->Int)(num col:Nat->Nat)(row:Nat->Int->Int):FW p w ã 0 num col row :=
 ⟨fun t h=>absurd h (bx _),fun t h=>absurd h (bx _),fun s t _ h=>absurd h (bx _),fun t h=>absurd h (bx _),fun c h=>(Nat.le_zero.mp h)▸vZ.zero _ _⟩
structure JL (p:Int)(w:Nat)(ã:Nat->Int->Int)(k:Nat)(num col:Nat->Nat)(v:Int->Int)(t:Nat)(left:Int->Int):Prop where
 eq:∃x:Int->Int,∀c:Nat,c<w->p∣left c-(v c-zab k fun s=>x s*ã (num s.toNat) c)
 zero:∀s,s<t->p∣left (col s)
theorem JL.start {p:Int}{w:Nat}{ã:Nat->Int->Int}{k:Nat}{num col:Nat->Nat}{v left:Int->Int}(h:∀c:Nat,c<w->p∣left c-v c):JL p w ã k num col v 0 left :=
 ⟨⟨fun _=>0,fun c hc=>by
  have e:(zab k fun s=>(0:Int)*ã (num s.toNat) c)=0:=by
   rw[zad (G:=fun _=>0) fun s _=>bn (ã (num (s:Int).toNat) c)];exact zbj k
  show p∣left c-(v c-zab k fun s=>(0:Int)*ã (num s.toNat) c)
  rw[e,dC];exact h c hc⟩,fun s h=>absurd h (bx _)⟩
theorem JL.step {p:Int}{w:Nat}{ã:Nat->Int->Int}{k:Nat}{num col:Nat->Nat}{row:Nat->Int->Int}(cr:FW p w ã k num col row){v left oU:Int->Int}{t:Nat}(ht:t<k)(h:JL p w ã k num col v t left)(e:∀c:Nat,c<w->p∣oU c-(left c-left (col t)*row t c)):JL p w ã k num col v (t+1) oU:=by
 obtain⟨x,hx⟩:=h.eq;obtain⟨l,hl⟩:=cr.span t ht;refine⟨⟨fun s=>x s+left (col t)*l s,fun c hc=>?_⟩,fun s hs=>?_⟩
 .have a:=hx c hc;have b:p∣left (col t)*(row t c-zab k fun s=>l s*ã (num s.toNat) c):=ax (hl c hc);have d:(zab k fun s=>(x s+left (col t)*l s)*ã (num s.toNat) c)=(zab k fun s=>x s*ã (num s.toNat) c)+left (col t)*zab k fun s=>l s*ã (num s.toNat) c:=by
   rw[<-zaj,<-zax];exact zad fun s _=>by grind
  rw[d];have:=bp (bT (e c hc) a) b;generalize (zab k fun s=>x s*ã (num s.toNat) c)=y at *;generalize (zab k fun s=>l s*ã (num s.toNat) c)=z at *;rwa [show oU c-(left c-left (col t)*row t c)+(left c-(v c-y))-left (col t)*(row t c-z)=oU c-(v c-(y+left (col t)*z)) by grind] at this
 .have ec:=e (col s) (cr.colw s J);rcases Nat.lt_succ_iff_lt_or_eq.mp hs with q | q
  .have z1:=h.zero s q;have z2:p∣left (col t)*row t (col s):=ax (cr.zero s t q ht);have:=bp (bT ec z1) z2;rwa [show ∀a b c:Int,a-(b-c)+b-c=a from fun a b c=>by lia] at this
  .subst q;have z2:p∣left (col s)*(row s (col s)-1):=ax (cr.one s ht);have:=bp ec z2;rwa [show oU (col s)-(left (col s)-left (col s)*row s (col s))-left (col s)*(row s (col s)-1)=oU (col s) by grind] at this
theorem FW.congr {p:Int}{w:Nat}{ã:Nat->Int->Int}{k:Nat}{num col num' col':Nat->Nat}{row row':Nat->Int->Int}(h:FW p w ã k num col row)(e1:∀t,t<k->num' t=num t)(e2:∀t,t<k->col' t=col t)(e3:∀t,t<k->row' t=row t):FW p w ã k num' col' row':=by
 refine⟨fun t ht=>by rw[e2 t ht];exact h.colw t ht,fun t ht=>by rw[e3 t ht,e2 t ht];exact h.one t ht,fun s t st ht=>by rw[e3 t ht,e2 s J];exact h.zero s t st ht,fun t ht=>?_,fun c hc y hy s hs=>?_⟩
 .obtain⟨l,hl⟩:=h.span t ht;refine⟨l,fun c hc=>?_⟩;rw[e3 t ht,zad (G:=fun s=>l s*ã (num s.toNat) c) fun s hs=>by rw[ae,e1 s hs]];exact hl c hc
 .refine h.ind c hc y (fun t ht=>?_) s hs;have:=hy t ht;dsimp only at this ⊢;rw[zad (G:=fun s=>y s*ã (num s.toNat) (col (t:Int).toNat)) fun s hs=>by rw[ae,ae,e1 s J,e2 t J]] at this;exact this
theorem FW.snoc {p:Int}(hp:zak p){w:Nat}{ã:Nat->Int->Int}{k:Nat}{num col:Nat->Nat}{row:Nat->Int->Int}(h:FW p w ã k num col row){left:Int->Int}(cl:JL p w ã k num col (ã (num k)) k left)(cw:col k<w)(nz:¬p∣left (col k)){u:Int}(hu:p∣left (col k)*u-1)(er:∀c:Nat,c<w->p∣row k c-left c*u):FW p w ã (k+1) num col row:=by
 obtain⟨x,hx⟩:=cl.eq;refine⟨fun t ht=>?_,fun t ht=>?_,fun s t st ht=>?_,fun t ht=>?_,fun c hc=>?_⟩
 .rcases Nat.lt_succ_iff_lt_or_eq.mp ht with q | q
  .exact h.colw t q
  .rw[q];exact cw
 .rcases Nat.lt_succ_iff_lt_or_eq.mp ht with q | q
  .exact h.one t q
  .rw[q];have:=bT (er (col k) cw) hu;rwa [show ∀a b:Int,a-b+(b-1)=a-1 from fun a b=>by lia] at this
 .rcases Nat.lt_succ_iff_lt_or_eq.mp ht with q | q
  .exact h.zero s t st q
  .subst q;have z:p∣left (col s)*u:=aD (cl.zero s st);have:=bT (er (col s) (h.colw s st)) z;rwa [show ∀a b:Int,a-b+b=a from fun a b=>by lia] at this
 .rcases Nat.lt_succ_iff_lt_or_eq.mp ht with q | q
  .obtain⟨l,hl⟩:=h.span t q;refine⟨fun s=>if s=(k:Int) then 0 else l s,fun c hc=>?_⟩;have e:(zab (k+1) fun s=>(if s=(k:Int) then 0 else l s)*ã (num s.toNat) c)=zab k fun s=>l s*ã (num s.toNat) c:=by
    show (zab k fun s=>(if s=(k:Int) then 0 else l s)*ã (num s.toNat) c)+(if (k:Int)=k then 0 else l k)*ã (num (k:Int).toNat) c=_
    rw[aB Z,bn,dF];exact zad fun s hs=>by rw[ak J]
   rw[e];exact hl c hc
  .subst q;refine⟨fun s=>if s=(t:Int) then u else -(u*x s),fun c hc=>?_⟩;have e:(zab (t+1) fun s=>(if s=(t:Int) then u else -(u*x s))*ã (num s.toNat) c)=u*(ã (num t) c-zab t fun s=>x s*ã (num s.toNat) c):=by
    show (zab t fun s=>(if s=(t:Int) then u else -(u*x s))*ã (num s.toNat) c)+(if (t:Int)=t then u else -(u*x t))*ã (num (t:Int).toNat) c=_
    rw[aB Z,ae];have:(zab t fun s=>(if s=(t:Int) then u else -(u*x s))*ã (num s.toNat) c)=-u*zab t fun s=>x s*ã (num s.toNat) c:=by
     rw[<-zaj];exact zad fun s hs=>by rw[ak J];grind
    rw[this];grind
   rw[e];have a:p∣u*(left c-(ã (num t) c-zab t fun s=>x s*ã (num s.toNat) c)):=ax (hx c hc);have:=bT (er c hc) a;generalize (zab t fun s=>x s*ã (num s.toNat) c)=y at *;rwa [show row t c-left c*u+u*(left c-(ã (num t) c-y))=row t c-u*(ã (num t) c-y) by grind] at this
 .rcases Nat.lt_or_ge c (k+1) with q | q
  .exact h.ind c J
  .have ec:c=k+1:=J;subst ec;refine vZ.snoc hp (h.ind k (aH k)) (x:=x) (fun t ht=>?_) fun d=>nz ?_
   .have a:=hx (col t) (h.colw t ht);have b:=cl.zero t ht;have:=bp b a;rw[show ∀a b:Int,a-(a-b)=b from fun a b=>by lia] at this;rw[ae,ae];exact this
   .have a:=hx (col k) cw;rw[ae] at d;exact(Lt.oK a).mpr d
def Hg (w:Nat)(ã:Nat->Int->Int)(k:Nat)(num:Nat->Nat)(v:Int->Int):Prop:=∃(t:Int->Int)(s:Int),s≠0/\∀c:Nat,c<w->s*v c=zab k fun i=>t i*ã (num i.toNat) c
theorem yo {F:Int->Int}{B:Int}:∀{k:Nat},(∀i:Nat,i<k->((F i).natAbs:Int)<=B)->((zab k F).natAbs:Int)<=k*B
 | 0,_=>by show ((0:Int).natAbs:Int)<=_;simp
 | k+1,h=>by
  have a:=yo (k:=k) fun i hi=>h i (bK hi);have b:=h k (bO k);show ((zab k F+F k).natAbs:Int)<=((k+1:Nat):Int)*B
  rw[jM,eU,cY];omega
section
variable {p:Int}{w k:Nat}{ã:Nat->Int->Int}{num col:Nat->Nat}{row:Nat->Int->Int}
theorem Hg.zero:Hg w ã k num fun _=>0:=⟨fun _=>0,1,O,fun c _=>by
 have:(zab k fun i=>(fun _=>(0:Int)) i*ã (num i.toNat) c)=zab k fun _=>0:=zad fun i _=>bn _;rw[this,zbj];rfl⟩
theorem Hg.add {u v:Int->Int}(h:Hg w ã k num u)(g:Hg w ã k num v)(a b:Int):Hg w ã k num fun c=>a*u c+b*v c:=by
 obtain⟨t,s,s0,ht⟩:=h;obtain⟨t',s',Px,T5⟩:=g;refine⟨fun i=>a*s'*t i+b*s*t' i,s*s',fun z=>(g8.mp z).elim s0 Px,fun c hc=>?_⟩;have e:(zab k fun i=>(a*s'*t i+b*s*t' i)*ã (num i.toNat) c)=a*s'*(zab k fun i=>t i*ã (num i.toNat) c)+b*s*zab k fun i=>t' i*ã (num i.toNat) c:=by
  rw[<-zaj,<-zaj,<-zax];exact zad fun i _=>by grind
 rw[e,<-ht c hc,<-T5 c hc];grind
theorem Hg.all (hp:zak p)(cr:FW p w ã k num col row){v:Int->Int}(h:Hg w ã k num v)(z:∀t:Nat,t<k->v (col t)=0)(c:Nat)(hc:c<w):v c=0:=by
 obtain⟨t,s,s0,ht⟩:=h;have ci:=(cr.ind k (aH k)).ci;have all:=ci.inj hp.1 (y:=t) fun j hj=>by
  have:=ht (col j) (cr.colw j hj);rw[z j hj,bw] at this;show (zab k fun i=>ã (num i.toNat) (col (j:Int).toNat)*t i)=0
  rw[ae,zad (G:=fun i=>t i*ã (num i.toNat) (col j)) fun i _=>aC ..];exact this.symm
 have e:=ht c hc;rw[zad (G:=fun _=>0) fun i hi=>by rw[all i hi,bn],zbj] at e;exact(g8.mp e).resolve_left s0
theorem Hg.weigh {v:Int->Int}(h:Hg w ã k num v){W:Int->Int}(z:∀i:Nat,i<k->(zab w fun c=>ã (num i) c*W c)=0):(zab w fun c=>v c*W c)=0:=by
 obtain⟨t,s,s0,ht⟩:=h;have e1:s*(zab w fun c=>v c*W c)=zab k fun i=>t i*zab w fun c=>ã (num i.toNat) c*W c:=by
  rw[<-zaj];have a:(zab w fun c=>s*(v c*W c))=zab w fun c=>zab k fun i=>t i*(ã (num i.toNat) c*W c):=zad fun c hc=>by
   rw[<-aK,ht c hc,<-zcg];exact zad fun i _=>aK ..
  rw[a,zbf];exact zad fun i _=>by rw[zaj]
 have e2:(zab k fun i=>t i*zab w fun c=>ã (num i.toNat) c*W c)=0:=by
  rw[zad (G:=fun _=>0) fun i hi=>by rw[ae,z i hi,bw],zbj]
 rw[e2] at e1;exact(g8.mp e1).resolve_left s0
end
def La (k:Nat)(R:Int->Int->Int)(v:Int->Int):Prop:=∃x:Int->Int,∀i:Nat,i<k->(zab k fun t=>R i t*x t)=v i
section
variable {k:Nat}{R:Int->Int->Int}
theorem La.Z7 {u v:Int->Int}(h:La k R u)(g:La k R v)(a b:Int):La k R fun i=>a*u i+b*v i:=by
 obtain⟨x,hx⟩:=h;obtain⟨y,hy⟩:=g;refine⟨fun t=>a*x t+b*y t,fun i hi=>?_⟩;have:(zab k fun t=>R i t*(a*x t+b*y t))=a*(zab k fun t=>R i t*x t)+b*zab k fun t=>R i t*y t:=by
  rw[<-zaj,<-zaj,<-zax];exact zad fun t _=>by grind
 rw[this,hx i hi,hy i hi]
theorem La.congr {u v:Int->Int}(h:La k R u)(e:∀i:Nat,i<k->u i=v i):La k R v:=by
 obtain⟨x,hx⟩:=h;exact⟨x,fun i hi=>by rw[hx i hi,e i hi]⟩
end
def pr (n:Nat->Nat):Nat->Nat
 | 0=>1
 | j+1=>pr n j*n j
def pt (n:Nat->Nat):Nat->Nat->Nat->Nat
 | 0,_,_=>0
 | k+1,N,i=>if i=k then N/pr n k else pt n k (N%pr n k) i
theorem zH {n:Nat->Nat}(h:∀i,1<=n i):∀k,1<=pr n k
 | 0=>aH 1
 | k+1=>by have:=dr (zH h k) (h k);exact this
theorem Ie {n:Nat->Nat}(h:∀i,1<=n i):∀{k N:Nat},N<pr n k->∀i,i<k->pt n k N i<n i
 | 0,_,_,i,hi=>absurd hi (bx _)
 | k+1,N,hN,i,hi=>by
  have p:=zH h k;show (if i=k then N/pr n k else pt n k (N%pr n k) i)<n i
  by_cases c:i=k
  .rw[aB c,c];exact hV hN
  .rw[ak c];exact Ie h (g4 _ p) i J
theorem Gy {n:Nat->Nat}(h:∀i,1<=n i):∀{k N M:Nat},N<pr n k->M<pr n k->(∀i,i<k->pt n k N i=pt n k M i)->N=M
 | 0,N,M,hN,hM,_=>by have a:N<1:=hN;have b:M<1:=hM;lia
 | k+1,N,M,hN,hM,e=>by
  have p:=zH h k;have ek:=e k (bO k);have YD:N/pr n k=M/pr n k:=by
   have:(if k=k then N/pr n k else pt n k (N%pr n k) k)=if k=k then M/pr n k else pt n k (M%pr n k) k:=ek;rwa [aB Z,aB Z] at this
  have r:=Gy h (k:=k) (g4 N p) (g4 M p) fun i hi=>by
   have:(if i=k then N/pr n k else pt n k (N%pr n k) i)=if i=k then M/pr n k else pt n k (M%pr n k) i:=e i (bK hi);rwa [ak J,ak J] at this
  rw[<-g7 N (pr n k),<-g7 M (pr n k),YD,r]
theorem DX {f g:Nat->Nat}:∀{k:Nat},(∃i,i<k/\f i≠g i)->∃j,j<k/\f j≠g j/\∀i,j<i->i<k->f i=g i
 | 0,⟨i,hi,_⟩=>absurd hi (bx _)
 | k+1,⟨i,hi,ne⟩=>by
  by_cases c:f k=g k
  .have:i≠k:=fun z=>ne (z▸c);obtain⟨j,hj,nj,all⟩:=DX (k:=k) ⟨i,J,ne⟩;refine⟨j,J,nj,fun i ji ik=>?_⟩;rcases Nat.lt_succ_iff_lt_or_eq.mp ik with q | q
   .exact all i ji q
   .rw[q];exact c
  .exact⟨k,bO k,c,fun i a b=>by lia⟩
theorem NR {p:Int}(hp:zak p){k C:Nat}(hC:1<=C){R:Int->Int->Int}(ci:CI p k R)(hR:∀i t:Nat,i<k->t<k->(R i t).natAbs<=C) :
  ∃D:Nat,1<=D/\D<=(2*(k*C)+1)^k/\∀v:Int->Int,La k R fun i=>D*v i:=by
 have ex:∀j:Nat,∃n:Nat,1<=n/\(j<k->(∃x:Int->Int,∀i:Nat,j<=i->i<k->(zab k fun t=>R i t*x t)=if i=j then (n:Int) else 0)/\∀m:Nat,m<n->¬(0<m/\∃x:Int->Int,∀i:Nat,j<=i->i<k->(zab k fun t=>R i t*x t)=if i=j then (m:Int) else 0)):=fun j=>by
  by_cases hj:j<k
  .obtain⟨x,s,s0,_,hx,_⟩:=zK hp hC (ê:=fun i=>if i=(j:Int) then 1 else 0) ci hR (fun i hi=>by
    show (if (i:Int)=j then (1:Int) else 0).natAbs<=C
    by_cases c:(i:Int)=j
    .rw[aB c];exact hC
    .rw[ak c];exact cX _)
   obtain⟨n,⟨n0,hn⟩,mn⟩:=Pg.least (P:=fun m:Nat=>0<m/\∃x:Int->Int,∀i:Nat,j<=i->i<k->(zab k fun t=>R i t*x t)=if i=j then (m:Int) else 0) (n:=s.toNat) ⟨J,x,fun i _ hi=>by
    have:=hx i hi;rw[this];show s*(if (i:Int)=j then (1:Int) else 0)=_
    by_cases c:i=j
    .rw[aB c,aB J];lia
    .rw[ak c,ak J,bw]⟩
   exact⟨n,n0,fun _=>⟨hn,mn⟩⟩
  .exact⟨1,aH 1,fun h=>absurd h hj⟩
 obtain⟨n,hn⟩:=Classical.axiomOfChoice ex;have n1:∀j,1<=n j:=fun j=>(hn j).1;have kill:∀j:Nat,j<=k->∀v:Int->Int,(∀i:Nat,j<=i->i<k->v i=0)->La k R fun i=>(pr n j:Int)*v i:=by
  intro j
  induction j with
  | zero =>
   intro _ v hv;refine⟨fun _=>0,fun i hi=>?_⟩;have:(zab k fun t=>R i t*(fun _=>(0:Int)) t)=zab k fun _=>0:=zad fun t _=>bw _;rw[this,zbj];show 0=(pr n 0:Int)*v i
   rw[hv i (cX i) hi,bw]
  | succ j ih =>
   intro hj v hv;obtain⟨⟨x,hx⟩,_⟩:=(hn j).2 J;have a:=ih J (fun i=>n j*v i-v j*zab k fun t=>R i t*x t) fun i ji ik=>by
    show (n j:Int)*v i-v j*(zab k fun t=>R i t*x t)=0
    rw[hx i ji ik]
    by_cases c:i=j
    .rw[aB c,c,aC];lia
    .rw[ak c,hv i J ik,bw,bw];rfl
   have b:La k R fun i=>zab k fun t=>R i t*x t:=⟨x,fun i _=>Z⟩;refine(a.Z7 b 1 (pr n j*v j)).congr fun i _=>?_;show 1*((pr n j:Int)*((n j:Int)*v i-v j*zab k fun t=>R i t*x t))+pr n j*v j*(zab k fun t=>R i t*x t)=((pr n j*n j:Nat):Int)*v i
   rw[aP];grind
 have all:∀v:Int->Int,La k R fun i=>(pr n k:Int)*v i:=fun v=>kill k (aH k) v fun i a b=>by lia
 have p1:=zH n1 k;refine⟨pr n k,p1,?_,all⟩;refine fO fun big=>?_
 -- each point has a zfu one in the box
 have box:∀N:Nat,∃u:Int->Int,(∀i:Nat,i<k->(u i).natAbs<=k*C)/\La k R fun i=>(pt n k N i.toNat:Int)-u i:=fun N=>by
  obtain⟨x,hx⟩:=all fun i=>(pt n k N i.toNat:Int);refine⟨fun i=>(pt n k N i.toNat:Int)-zab k fun t=>R i t*(x t/pr n k),fun i hi=>?_,⟨fun t=>x t/pr n k,fun i hi=>by dsimp only;lia⟩⟩;have e:(pr n k:Int)*((pt n k N (i:Int).toNat:Int)-zab k fun t=>R i t*(x t/pr n k))=zab k fun t=>R i t*(x t%pr n k):=by
   have h1:=hx i hi;dsimp only at h1;rw[cS,<-h1,<-zaj];have:(zab k fun t=>R i t*(x t%pr n k))=(zab k fun t=>R i t*x t) + -1*(zab k fun t=>pr n k*(R i t*(x t/pr n k))):=by
    rw[<-zaj,<-zax];refine zad fun t _=>?_;rw[jc];grind
   rw[this];lia
  have b:=Sg.yo (m:=k) (F:=fun t=>R i t*(x t%pr n k)) (B:=C*pr n k) fun t ht=>by
   show (R i t*(x t%pr n k)).natAbs<=_
   rw[aR];refine dr (hR i t hi ht) ?_;have:=aE (x t) (show (pr n k:Int)≠0 by lia);have:=aA (x t) (show 0<(pr n k:Int) by lia);lia
  rw[<-e,aR,cD,<-gS,f9] at b;exact Nat.le_of_mul_le_mul_right b p1
 obtain⟨u,hu⟩:=Classical.axiomOfChoice box;have eb:∀N i:Nat,i<k->(u N i+(k*C:Nat)).toNat<2*(k*C)+1:=fun N i hi=>by
  have:=(hu N).1 i hi;lia
 obtain⟨N,M,NM,Mk,e⟩:=Pg.xJ (fun N=>Sg.enc (2*(k*C)+1) k fun i=>(u N i+(k*C:Nat)).toNat) big fun N _=>Sg.u8 (eb N);have same:=Sg.wj (eb N) (eb M) e;obtain⟨x,hx⟩:La k R fun i=>(pt n k N i.toNat:Int)-pt n k M i.toNat:=((hu N).2.Z7 (hu M).2 1 (-1)).congr fun i hi=>by
  have s:=same i hi;have a:=(hu N).1 i hi;have b:=(hu M).1 i hi;omega
 have dif:∃i,i<k/\pt n k N i≠pt n k M i:=by
  refine aY fun no=>?_;have:=Gy n1 (k:=k) (N:=N) (M:=M) J Mk fun i hi=>aY fun z=>no ⟨i,hi,z⟩;lia
 obtain⟨j,jk,nj,í⟩:=DX dif;have lN:=Ie n1 (k:=k) (N:=N) J j jk;have lM:=Ie n1 (k:=k) (N:=M) Mk j jk;have mn:=((hn j).2 jk).2;have DR:∀i:Nat,i<k->(zab k fun t=>R i t*x t)=(pt n k N i:Int)-pt n k M i:=fun i hi=>by
  have:=hx i hi;dsimp only at this;rwa [ae] at this
 rcases Nat.lt_or_gt_of_ne nj with lt | gt
 .refine mn (pt n k M j-pt n k N j) J ⟨J,fun t=>-1*x t,fun i ji ik=>?_⟩;have:(zab k fun t=>R i t*(-1*x t))=-1*zab k fun t=>R i t*x t:=by
   rw[<-zaj];exact zad fun t _=>by grind
  rw[this,DR i ik]
  by_cases c:i=j
  .rw[aB c,c];lia
  .rw[ak c,í i J ik];lia
 .refine mn (pt n k N j-pt n k M j) J ⟨J,x,fun i ji ik=>?_⟩;rw[DR i ik]
  by_cases c:i=j
  .rw[aB c,c];lia
  .rw[ak c,í i J ik];lia
end Mx
namespace Pq
def bl (a:Nat):Nat->Nat
 | 0=>a
 | k+1=>bl a k*bl (a+2^k) k
theorem CD:∀{k a d:Nat},a<=d->d<a+2^k->d∣bl a k
 | 0,a,d,h1,h2=>by
  have:d=a:=by rw[iw] at h2;lia
  rw[this];exact jf _
 | k+1,a,d,h1,h2=>by
  rw[dQ] at h2;show d∣bl a k*bl (a+2^k) k
  rcases Nat.lt_or_ge d (a+2^k) with c | c
  .exact Nat.dvd_mul_right_of_dvd (CD h1 c) _
  .exact iU (CD c J) _
def S:List Nat:=[1000000007,1000000009,1000000021,1000000033,1000000087,1000000093,1000000097,1000000103,1000000123,1000000181,1000000207,1000000223,1000000241,1000000271,1000000289,1000000297,1000000321,1000000349,1000000363,1000000403,1000000409,1000000411,1000000427,1000000433,1000000439,1000000447,1000000453,1000000459,1000000483,1000000513,1000000531,1000000579,1000000607,1000000613,1000000637,1000000663,1000000711,1000000753,1000000787,1000000801,1000000829,1000000861,1000000871,1000000891,1000000901,1000000919,1000000931,1000000933,1000000993,1000001011,1000001021,1000001053,1000001087,1000001099,1000001137,1000001161,1000001203,1000001213,1000001237,1000001263,1000001269,1000001273,1000001279,1000001311,1000001329,1000001333,1000001351,1000001371,1000001393,1000001413,1000001447,1000001449,1000001491,1000001501,1000001531,1000001537,1000001539,1000001581,1000001617,1000001621,1000001633,1000001647,1000001663,1000001677,1000001699,1000001759,1000001773,1000001789,1000001791,1000001801,1000001803,1000001819]
def pd:List Nat->Nat
 | []=>1
 | p::l=>p*pd l
theorem Iz:∀{l:List Nat}{p:Nat},p∈l->p∣pd l
 | q::l,p,h=>by
  show p∣q*pd l
  rcases List.mem_cons.mp h with e | e
  .rw[e];exact Nat.dvd_mul_right ..
  .exact iU (Iz e) _
theorem BF:(Nat.gcd (pd S) (bl 2 15) == 1)=true:=by decide +kernel
theorem AM:(S.all fun p=>decide (1000000007<=p/\p<1000002100))=true:=by decide +kernel
theorem N5:S.Nodup:=by decide +kernel
theorem Gw {p:Nat}(h:p∈S):zak (p:Int)/\1000000007<=p/\p<1000002100:=by
 have r:=fk (dL.mp AM p h);refine⟨⟨J,fun d d2 dp dd=>?_⟩,r⟩;have g:Nat.gcd (pd S) (bl 2 15)=1:=eq_of_beq BF;have no:∀e:Nat,2<=e->e<2+2^15->¬e∣p:=fun e e2 el ep=>by
  have a:=Nat.dvd_gcd (Nat.dvd_trans ep (Iz h)) (CD e2 el);rw[g] at a;have:=gR Nat.one_pos a;lia
 obtain⟨e,rfl⟩:=Int.eq_ofNat_of_zero_le (show 0<=d by lia);have ep:e∣p:=Int.natCast_dvd_natCast.mp dd;obtain⟨f,hf⟩:=ep;have f2:2<=f:=by
  rcases Nat.lt_or_ge f 2 with c | c
  .have:f=0\/f=1:=J;rcases this with z | z
   .rw[z] at hf;lia
   .rw[z,iD] at hf;lia
  .exact c
 rcases Nat.lt_or_ge e (2+2^15) with c | c
 .exact no e J c ⟨f,hf⟩
 .rcases Nat.lt_or_ge f (2+2^15) with c' | c'
  .exact no f f2 c' ⟨e,by rw[hf,f9]⟩
  .have:=dr c c';lia
end Pq
open Pq renaming pd→zcu
namespace Mx
def Hm (q:Int)(w:Nat)(ã:Nat->Int->Int)(k:Nat)(num:Nat->Nat)(v:Int->Int):Prop:=∃x:Int->Int,∀c:Nat,c<w->q∣v c-zab k fun s=>x s*ã (num s.toNat) c
structure Fr (q:Int)(w n:Nat)(ã:Nat->Int->Int)(k:Nat)(num col:Nat->Nat):Prop where
 colw:∀t,t<k->col t<w
 sW:∀t,t<k->num t<n
 ind:vZ q k (fun s t=>ã (num s.toNat) (col t.toNat))
 all:∀j,j<n->Hm q w ã k num (ã j)
def Good (q:Int)(w n:Nat)(ã:Nat->Int->Int)(ê:Int->Int):Prop :=
 ∀k num col,Fr q w n ã k num col->(∀j,j<n->Hg w ã k num (ã j))/\(Hm q w ã k num ê->Hg w ã k num ê)
theorem TD {q:Int}(hq:2<=q){w m k:Nat}(km:k<m){r f:Nat->Int->Int}(h:∀i,i<m->∃x:Int->Int,∀c:Nat,c<w->q∣r i c-zab k fun s=>x s*f s.toNat c) :
  ∃y:Int->Int,(∃i:Nat,i<m/\¬q∣y i)/\∀c:Nat,c<w->q∣zab m fun i=>y i*r i.toNat c:=by
 have h':∀i,∃x:Int->Int,i<m->∀c:Nat,c<w->q∣r i c-zab k fun s=>x s*f s.toNat c:=fun i=>by
  by_cases c:i<m
  .obtain⟨x,hx⟩:=h i c;exact⟨x,fun _=>hx⟩
  .exact⟨fun _=>0,fun z=>absurd z c⟩
 obtain⟨X,hX⟩:=Classical.axiomOfChoice h';obtain⟨Q,hQ⟩:∃Q:Nat,Q=q.toNat:=⟨_,Z⟩;have qQ:q=Q:=J;have Q2:2<=Q:=J;have eb:∀N s:Nat,s<k->((zab m fun i=>(zam Q N i.toNat:Int)*X i.toNat s)%q).toNat<Q:=fun N s _=>by
  have a:=aE (zab m fun i=>(zam Q N i.toNat:Int)*X i.toNat s) (show q≠0 by lia);have b:=aA (zab m fun i=>(zam Q N i.toNat:Int)*X i.toNat s) (show 0<q by lia);lia
 obtain⟨N,M,NM,Mm,e⟩:=Pg.xJ (fun N=>Sg.enc Q k fun s=>((zab m fun i=>(zam Q N i.toNat:Int)*X i.toNat s)%q).toNat) (Nat.pow_lt_pow_right Q2 km) fun N _=>Sg.u8 (eb N);have same:=Sg.wj (eb N) (eb M) e;refine⟨fun i=>(zam Q N i.toNat:Int)-zam Q M i.toNat,?_,fun c hc=>?_⟩
 .refine aY fun no=>?_;have:N=M:=Sg.zN (b:=Q) J J Mm fun j hj=>by
   have d:q∣(zam Q N j:Int)-zam Q M j:=aY fun z=>no ⟨j,hj,by dsimp only;rw[Int.toNat_natCast];exact z⟩;have a:zam Q N j<Q:=g4 _ J;have b:zam Q M j<Q:=g4 _ J
   by_cases z:(zam Q N j:Int)-zam Q M j=0
   .lia
   .have:=aW (show (0:Int)<((zam Q N j:Int)-zam Q M j).natAbs by lia) (gI.mpr d);lia
  lia
 .have e1:q∣(zab m fun i=>((zam Q N i.toNat:Int)-zam Q M i.toNat)*r i.toNat c)-zab m fun i=>((zam Q N i.toNat:Int)-zam Q M i.toNat)*zab k fun s=>X i.toNat s*f s.toNat c:=zcv fun i hi=>by
   rw[ae,<-cS];exact ax (hX i hi c hc)
  refine(Lt.oK e1).mpr ?_;have e2:(zab m fun i=>((zam Q N i.toNat:Int)-zam Q M i.toNat)*zab k fun s=>X i.toNat s*f s.toNat c)=zab k fun s=>(zab m fun i=>((zam Q N i.toNat:Int)-zam Q M i.toNat)*X i.toNat s)*f s.toNat c:=by
   rw[zad (G:=fun i=>zab k fun s=>((zam Q N i.toNat:Int)-zam Q M i.toNat)*X i.toNat s*f s.toNat c) fun i _=>by
    rw[<-zaj];exact zad fun s _=>by grind]
   rw[zbf];exact zad fun s _=>by rw[zcg]
  rw[e2];refine vA fun s hs=>aD ?_;have z:=same s hs;have e3:(zab m fun i=>((zam Q N i.toNat:Int)-zam Q M i.toNat)*X i.toNat s)=(zab m fun i=>(zam Q N i.toNat:Int)*X i.toNat s) + -1*zab m fun i=>(zam Q M i.toNat:Int)*X i.toNat s:=by
   rw[<-zaj,<-zax];exact zad fun i _=>by grind
  rw[e3];have a:=aE (zab m fun i=>(zam Q N i.toNat:Int)*X i.toNat s) (show q≠0 by lia);have b:=aE (zab m fun i=>(zam Q M i.toNat:Int)*X i.toNat s) (show q≠0 by lia);generalize (zab m fun i=>(zam Q N i.toNat:Int)*X i.toNat s)=A at *;generalize (zab m fun i=>(zam Q M i.toNat:Int)*X i.toNat s)=B at *;have ab:A%q=B%q:=J;rw[show A + -1*B=A-B by lia];exact bR (by rw[eZ,ab,cC,eO])
theorem both {p:Int}(hp:zak p){k C:Nat}(hC:1<=C){M:Int->Int->Int}(ind:vZ p k M)(hM:∀i t:Nat,i<k->t<k->(M i t).natAbs<=C) :
  ∃D:Nat,1<=D/\D<=(2*(k*C)+1)^k/\(∀v:Int->Int,La k (fun s t=>M t s) fun i=>D*v i)/\∀v:Int->Int,La k M fun i=>D*v i:=by
 obtain⟨D,D1,Db,al⟩:=NR hp hC ind.ci fun i t hi ht=>hM t i ht hi;refine⟨D,D1,Db,al,fun v=>?_⟩
 -- the weights that single one row out
 have ex:∀j:Nat,∃x:Int->Int,∀t:Nat,t<k->(zab k fun i=>M i t*x i)=D*if t=j then 1 else 0:=fun j=>by
  obtain⟨x,hx⟩:=al fun t=>if t=(j:Int) then 1 else 0;refine⟨x,fun t ht=>?_⟩;have:=hx t ht;dsimp only at this;rw[this]
  by_cases c:t=j
  .rw[aB c,aB J]
  .rw[ak c,ak J]
 obtain⟨X,hX⟩:=Classical.axiomOfChoice ex;have key:∀l i:Nat,l<k->i<k->(zab k fun j=>M l j*X j.toNat i)=D*if i=l then 1 else 0:=fun l i hl hi=>by
  have z:=ind.ci.inj hp.1 (y:=fun i=>(zab k fun j=>M l j*X j.toNat i)-D*if i=(l:Int) then 1 else 0) (fun t ht=>by
   show (zab k fun i=>M i t*((zab k fun j=>M l j*X j.toNat i)-D*if i=(l:Int) then 1 else 0))=0
   have a:(zab k fun i=>M i t*((zab k fun j=>M l j*X j.toNat i)-D*if i=(l:Int) then 1 else 0))=(zab k fun i=>zab k fun j=>M l j*(M i t*X j.toNat i)) + -D*zab k fun i=>M i t*if i=(l:Int) then 1 else 0:=by
    rw[<-zaj,<-zax];refine zad fun i _=>?_;have:(zab k fun j=>M l j*(M i t*X j.toNat i))=M i t*zab k fun j=>M l j*X j.toNat i:=by rw[<-zaj];exact zad fun j _=>by grind
    rw[this];grind
   rw[a,mY hl,zbf];have b:(zab k fun j=>zab k fun i=>M l j*(M i t*X j.toNat i))=zab k fun j=>M l j*D*if j=(t:Int) then 1 else 0:=zad fun j hj=>by
    rw[zaj,ae,hX j t ht]
    by_cases c:t=j
    .rw[aB c,aB J];grind
    .rw[ak c,ak J];grind
   rw[b,mY (F:=fun j=>M l j*D) ht];grind) i hi
  by_cases c:i=l
  .rw[aB c];rw[aB J] at z;lia
  .rw[ak c];rw[ak J] at z;lia
 refine⟨fun j=>zab k fun i=>X j.toNat i*v i,fun l hl=>?_⟩;have a:(zab k fun j=>M l j*zab k fun i=>X j.toNat i*v i)=zab k fun i=>zab k fun j=>M l j*X j.toNat i*v i:=by
  rw[zbf];exact zad fun j _=>by rw[<-zaj];exact zad fun i _=>by grind
 rw[a];have b:(zab k fun i=>zab k fun j=>M l j*X j.toNat i*v i)=zab k fun i=>D*v i*if i=(l:Int) then 1 else 0:=zad fun i hi=>by
  rw[zcg,key l i hl hi]
  by_cases c:i=l
  .rw[aB c,aB J];grind
  .rw[ak c,ak J];grind
 rw[b,mY (F:=fun i=>D*v i) hl]
theorem La.ind {q:Int}(hq:zak q){k:Nat}{M:Int->Int->Int}{D:Int}(h:∀v:Int->Int,La k M fun i=>D*v i)(nd:¬q∣D):vZ q k M:=fun y hy s hs=>by
 obtain⟨x,hx⟩:=h fun i=>if i=(s:Int) then 1 else 0;have e:(zab k fun t=>x t*zab k fun i=>y i*M i t)=D*y s:=by
  have a:(zab k fun t=>x t*zab k fun i=>y i*M i t)=zab k fun i=>y i*zab k fun t=>M i t*x t:=by
   rw[zad (G:=fun t=>zab k fun i=>y i*(M i t*x t)) fun t _=>by rw[<-zaj];exact zad fun i _=>by grind];rw[zbf];exact zad fun i _=>by rw[zaj]
  rw[a,zad (G:=fun i=>D*y i*if i=(s:Int) then 1 else 0) fun i hi=>by rw[hx i hi];grind];exact mY (F:=fun i=>D*y i) hs
 have d:q∣D*y s:=by rw[<-e];exact vA fun t ht=>ax (hy t ht)
 exact oI hq d nd
section
variable {k:Nat}{num col:Nat->Nat}
variable {w n:Nat}{ã:Nat->Int->Int}
theorem Fr.Fy {q:Int}(hq:zak q)(F:Fr q w n ã k num col):k<=n/\k<=w:=by
 constructor
 .refine fO fun lt=>?_;obtain⟨y,⟨i,hi,ny⟩,hy⟩:=TD hq.1 (w:=w) lt (r:=fun i=>ã (num i)) (f:=ã) fun i hi=>⟨fun s=>if s=(num i:Int) then 1 else 0,fun c hc=>by
   rw[zad (G:=fun s=>ã s.toNat c*if s=(num i:Int) then 1 else 0) fun s _=>by grind,mY (F:=fun s=>ã s.toNat c) (F.sW i hi)];rw[ae,cC];exact bq _⟩
  exact ny (F.ind y (fun t ht=>by dsimp only;rw[Int.toNat_natCast];exact hy (col t) (F.colw t ht)) i hi)
 .refine fO fun lt=>?_;obtain⟨y,⟨i,hi,ny⟩,hy⟩:=TD hq.1 (w:=w) lt (r:=fun i=>ã (num i)) (f:=fun s c=>if (s:Int)=c then 1 else 0) fun i hi=>⟨fun s=>ã (num i) s,fun c hc=>by
   rw[zad (G:=fun s=>ã (num i) s*if s=(c:Int) then 1 else 0) fun s _=>by rw[ae],mY (F:=fun s=>ã (num i) s) hc];rw[cC];exact bq _⟩
  exact ny (F.ind y (fun t ht=>by dsimp only;rw[Int.toNat_natCast];exact hy (col t) (F.colw t ht)) i hi)
theorem Co {q:Int}(hq:zak q){k':Nat}{num' col':Nat->Nat}{D:Int}(cw:∀t,t<k->col t<w)(nn:∀t,t<k->num t<n)(h:∀v:Int->Int,La k (fun s t=>ã (num s.toNat) (col t.toNat)) fun i=>D*v i)(nd:¬q∣D)(F:Fr q w n ã k' num' col'):k<=k':=by
 refine fO fun lt=>?_;obtain⟨y,⟨i,hi,ny⟩,hy⟩:=TD hq.1 (w:=w) lt (r:=fun i=>ã (num i)) (f:=fun s=>ã (num' s)) fun i hi=>F.all (num i) (nn i hi);exact ny (La.ind hq h nd y (fun t ht=>by dsimp only;rw[Int.toNat_natCast];exact hy (col t) (cw t ht)) i hi)
theorem Re {q:Int}(hq:zak q){k':Nat}{num' col':Nat->Nat}{D:Int}(cw:∀t,t<k->col t<w)(nn:∀t,t<k->num t<n)(h:∀v:Int->Int,La k (fun s t=>ã (num s.toNat) (col t.toNat)) fun i=>D*v i)(F:Fr q w n ã k' num' col')(kk:k'<=k)
 {v:Int->Int}(hv:Hm q w ã k' num' v){s:Int}{t:Int->Int}(ht:∀i:Nat,i<k->(zab k fun j=>ã (num j.toNat) (col i)*t j)=s*v (col i)){c:Nat}(hc:c<w):q∣D*(s*v c-zab k fun i=>t i*ã (num i.toNat) c):=by
  refine aY fun nd=>?_;have nD:¬q∣D:=fun z=>nd (aD z);have nG:¬q∣s*v c-zab k fun i=>t i*ã (num i.toNat) c:=fun z=>nd (ax z);have ind:=La.ind hq h nD;obtain⟨y,⟨i,hi,ny⟩,hy⟩:=TD hq.1 (w:=w) (show k'<k+1 by lia) (r:=fun i=>if i<k then ã (num i) else v) (f:=fun s=>ã (num' s)) fun i hi=>by
    by_cases z:i<k
    · rw[aB z];exact F.all (num i) (nn i z)
    · rw[ak z];exact hv
  have DQ:∀c:Nat,c<w->q∣(zab k fun i=>y i*ã (num i.toNat) c)+y k*v c:=fun c hc=>by
    have a:=hy c hc;have e:(zab (k+1) fun i=>y i*(if i.toNat<k then ã (num i.toNat) else v) c)=(zab k fun i=>y i*ã (num i.toNat) c)+y k*v c:=by
      show (zab k fun i=>y i*(if i.toNat<k then ã (num i.toNat) else v) c)+y k*(if (k:Int).toNat<k then ã (num (k:Int).toNat) else v) c=_
      rw[ak J,zad (G:=fun i=>y i*ã (num i.toNat) c) fun i hi=>by rw[aB J]]
    rwa [e] at a
  have sp:∀c:Nat,(zab k fun i=>(s*y i+y k*t i)*ã (num i.toNat) c)=s*(zab k fun i=>y i*ã (num i.toNat) c)+y k*zab k fun i=>t i*ã (num i.toNat) c:=fun c=>by
    rw[<-zaj,<-zaj,<-zax];exact zad fun i _=>by grind
  have near:=ind (fun i=>s*y i+y k*t i) fun j hj=>by
    have a:=ax (a:=q) (b:=s) (DQ (col j) (cw j hj));have b:=ht j hj;dsimp only;rw[ae,sp];rw[zad (G:=fun i=>t i*ã (num i.toNat) (col j)) fun i _=>aC ..] at b;rw[b];rwa [show s*((zab k fun i=>y i*ã (num i.toNat) (col j))+y k*v (col j))=s*(zab k fun i=>y i*ã (num i.toNat) (col j))+y k*(s*v (col j)) by grind] at a
  have yk:q∣y k:=by
    have a:=ax (a:=q) (b:=s) (DQ c hc);have b:q∣zab k fun i=>(s*y i+y k*t i)*ã (num i.toNat) c:=vA fun i hi=>aD (near i hi);rw[sp] at b;have d:=bp a b;generalize (zab k fun i=>y i*ã (num i.toNat) c)=Y at *;generalize (zab k fun i=>t i*ã (num i.toNat) c)=T at *;rw[show s*(Y+y k*v c)-(s*Y+y k*T)=(s*v c-T)*y k by grind] at d;exact oI hq d nG
  have yi:=ind y fun j hj=>by
    have a:=DQ (col j) (cw j hj);have b:q∣y k*v (col j):=aD yk;have:=bp a b;rw[show ∀a b:Int,a+b-b=a from fun a b=>by lia] at this;dsimp only;rw[ae];exact this
  rcases Nat.lt_succ_iff_lt_or_eq.mp hi with z | z
  · exact ny (yi i z)
  · rw[z] at ny;exact ny yk
theorem res {p:Int}(hp:zak p){C:Nat}(hC:1<=C)(F:Fr p w n ã k num col)(hs:∀(j:Nat)(c:Nat),j<n->c<w->(ã j c).natAbs<=C){v:Int->Int}(hv:∀c:Nat,c<w->(v c).natAbs<=C)(no:¬Hg w ã k num v) :
  ∃(t:Int->Int)(s:Int)(c:Nat),c<w/\(∀i:Nat,i<k->(zab k fun j=>ã (num j.toNat) (col i)*t j)=s*v (col i))/\(s*v c-zab k fun i=>t i*ã (num i.toNat) c)≠0/\((s*v c-zab k fun i=>t i*ã (num i.toNat) c).natAbs:Int)<=(k+1:Nat)*(zaw k C*C):=by
 obtain⟨t,s,s0,ps,ht,tb,sb,_⟩:=zK hp hC (ê:=fun i=>v (col i.toNat)) F.ind.ci (fun i j hi hj=>by
  show (ã (num (j:Int).toNat) (col (i:Int).toNat)).natAbs<=C
  rw[ae,ae];exact hs _ (col i) (F.sW j hj) (F.colw i hi)) (fun i hi=>by
  show (v (col (i:Int).toNat)).natAbs<=C
  rw[ae];exact hv (col i) (F.colw i hi))
 have T5:∀i:Nat,i<k->(zab k fun j=>ã (num j.toNat) (col i)*t j)=s*v (col i):=fun i hi=>by
  have:=ht i hi;rwa [ae] at this
 have ex:∃c:Nat,c<w/\(s*v c-zab k fun i=>t i*ã (num i.toNat) c)≠0:=aY fun z=>no ⟨t,s,J,fun c hc=>by
  have:(s*v c-zab k fun i=>t i*ã (num i.toNat) c)=0:=aY fun y=>z ⟨c,hc,y⟩;lia⟩
 obtain⟨c,hc,nz⟩:=ex;refine⟨t,s,c,hc,T5,nz,?_⟩;have T0:(0:Int)<=zaw k C:=J;have a:((s*v c).natAbs:Int)<=zaw k C*C:=by
  rw[aR,aP];exact cL J (by have:=hv c hc;lia) J T0
 have b:((zab k fun i=>t i*ã (num i.toNat) c).natAbs:Int)<=k*(zaw k C*C):=yo fun i hi=>by
  rw[aR,aP,ae];exact cL (by have:=tb i hi;lia) (by have:=hs _ c (F.sW i hi) hc;lia) J T0
 rw[jM,eU,cY];omega
theorem Ml {α:Type}(f:α->Nat):∀{l:List α},l≠[]->∃a,a∈l/\∀b,b∈l->f b<=f a
 | [],h=>absurd Z h
 | [a],_=>⟨a,av,fun b hb=>by rw[bF.mp hb];exact aH _⟩
 | a::b::l,_=>by
  obtain⟨x,hx,mx⟩:=Ml f (l:=b::l) ke;rcases Nat.lt_or_ge (f a) (f x) with c | c
  .exact⟨x,ar _ hx,fun y hy=>(fT.mp hy).elim (fun e=>by rw[e];lia) (mx y)⟩
  .exact⟨a,av,fun y hy=>(fT.mp hy).elim (fun e=>by rw[e];lia) fun h=>by have:=mx y h;lia⟩
theorem IG:∀{l:List Nat}{x:Int},l.Nodup->(∀q,q∈l->zak (q:Int)/\(q:Int)∣x)->(zcu l:Int)∣x
 | [],x,_,_=>gn _
 | q::l,x,nd,h=>by
  obtain⟨hq,x',hx⟩:=h q List.mem_cons_self;rw[fj] at nd;have r:=IG (l:=l) (x:=x') nd.2 fun p hp=>by
   have a:=h p (ar _ hp);refine⟨a.1,?_⟩;rw[hx] at a;refine oI a.1 a.2 fun d=>?_;have:p≠q:=fun e=>nd.1 (e▸hp);have le:=aW (by have:=hq.1;lia) d;exact hq.2 p a.1.1 J d
  show ((q*zcu l:Nat):Int)∣x
  rw[aP,hx];exact Int.mul_dvd_mul (c7 _) r
theorem Ku {S:List Nat}(ne:S≠[])(JA:∀q,q∈S->zak (q:Int))(nd:S.Nodup){ê:Int->Int}{C Cg:Nat}(hC:1<=C)(CC:C<=Cg)(hs:∀(j:Nat)(c:Nat),j<n->c<w->(ã j c).natAbs<=C)(hg:∀c:Nat,c<w->(ê c).natAbs<=Cg)
 (big:∀k,k<=n->k<=w->(2*(k*C)+1)^k*((k+1)*(zaw k Cg*Cg))<zcu S):∃q,q∈S/\Good q w n ã ê:=by
  refine aY fun no=>?_;have ex:∀q:Nat,∃F:Nat×(Nat->Nat)×(Nat->Nat),q∈S->Fr q w n ã F.1 F.2.1 F.2.2/\¬((∀j,j<n->Hg w ã F.1 F.2.1 (ã j))/\(Hm q w ã F.1 F.2.1 ê->Hg w ã F.1 F.2.1 ê)):=fun q=>by
    by_cases h:q∈S
    · refine aY fun z=>no ⟨q,h,fun k num col F=>aY fun y=>z ⟨(k,num,col),fun _=>⟨F,y⟩⟩⟩
    · exact⟨(0,id,id),fun z=>absurd z h⟩
  obtain⟨F,hF⟩:=Classical.axiomOfChoice ex;obtain⟨p,pS,mx⟩:=Ml (fun q=>(F q).1) ne;have YE:∀(j:Nat)(c:Nat),j<n->c<w->(ã j c).natAbs<=Cg:=fun j c a b=>bQ (hs j c a b) CC;have over:∀(k:Nat)(D:Nat)(G:Int),k<=n->k<=w->1<=D->D<=(2*(k*C)+1)^k->G≠0->(G.natAbs:Int)<=(k+1:Nat)*(zaw k Cg*Cg)->¬∀q,q∈S->(q:Int)∣D*G:=fun k D G kn kw D1 Db G0 Gb all=>by
    have d:=IG nd fun q hq=>⟨JA q hq,all q hq⟩;have d':=bi.mpr d;rw[aR,cD,cD] at d';have G1:0<G.natAbs:=J;have le:=gR (fZ D1 G1) d';have b:=big k kn kw;have Gb':G.natAbs<=(k+1)*(zaw k Cg*Cg):=by
      have:(G.natAbs:Int)<=(((k+1)*(zaw k Cg*Cg):Nat):Int):=by rw[aP,aP];exact Gb
      lia
    have:=dr Db Gb';lia
  have dl:∀q:Nat,q∈S->∃D:Nat,1<=D/\D<=(2*((F q).1*C)+1)^(F q).1/\∀v:Int->Int,La (F q).1 (fun s t=>ã ((F q).2.1 s.toNat) ((F q).2.2 t.toNat)) fun i=>D*v i:=fun q hq=>by
    have fr:=(hF q hq).1;obtain⟨D,D1,Db,_,al⟩:=both (JA q hq) hC fr.ind fun i t hi ht=>by
      rw[ae,ae];exact hs _ _ (fr.sW i hi) (fr.colw t ht)
    exact⟨D,D1,Db,al⟩
  -- all é zfx on as à è as there are at most
  have é:∀q:Nat,q∈S->(F q).1=(F p).1->∀j,j<n->Hg w ã (F q).1 (F q).2.1 (ã j):=fun q hq ek j hj=>aY fun z=>by
    have fr:=(hF q hq).1;obtain⟨D,D1,Db,al⟩:=dl q hq;obtain⟨t,s,c,hc,ht,nz,Gb⟩:=res (JA q hq) J fr YE (YE j · hj) z;have le:=fr.Fy (JA q hq);exact over _ D _ le.1 le.2 D1 Db nz Gb fun q' Cj=>Re (JA q' Cj) fr.colw fr.sW al (hF q' Cj).1 (by have:=mx q' Cj;lia) ((hF q' Cj).1.all j hj) ht hc
  have fr:=(hF p pS).1;obtain⟨D,D1,Db,al⟩:=dl p pS;have st:=é p pS Z;have gl:Hm p w ã (F p).1 (F p).2.1 ê/\¬Hg w ã (F p).1 (F p).2.1 ê:=by
    have b:=(hF p pS).2;refine aY fun z=>b ⟨st,fun h=>aY fun y=>z ⟨h,y⟩⟩
  obtain⟨t,s,c,hc,ht,nz,Gb⟩:=res (JA p pS) J fr YE hg gl.2;have le:=fr.Fy (JA p pS);refine over _ D _ le.1 le.2 D1 Db nz Gb fun q hq=>?_;have kk:=mx q hq
  by_cases e:(F q).1=(F p).1
  · have hm:Hm q w ã (F q).1 (F q).2.1 ê:=by
      refine aY fun z=>(hF q hq).2 ⟨é q hq e,fun h=>absurd h z⟩
    exact Re (JA q hq) fr.colw fr.sW al (hF q hq).1 kk hm ht hc
  · refine aY fun z=>?_
    have:=Co (JA q hq) fr.colw fr.sW al (fun d=>z (aD d)) (hF q hq).1;lia
end
end Mx
open Mx renaming Good→zco
namespace Lt
theorem CA.at {m:Int}{K:Nat}:∀{c:Nat}{ls:List (List Int)},CA m K c ls->∀{i:Nat}{l:List Int},ls[i]?=some l->l.length=K/\(∀j,j<c+i->g l j=0)/\1<=g l (c+i)/\g l (c+i)∣m
 | c,l::ls,h,0,l',e=>by cases e;exact h.1
 | c,l::ls,h,i+1,l',e=>by
  have:=CA.at h.2 (i:=i) (l:=l') e;rw[show c+(i+1)=c+1+i by lia];exact this
theorem Lh.at {m:Int}{k:Nat}:∀{c:Nat}{ls:List (List Int)},Lh m k c ls->∀{i:Nat}{l:List Int},ls[i]?=some l->∀a:Int->Int,(∀(j:Nat)(l':List Int),i<j->ls[j]?=some l'->m∣dt k l' a)->m∣m/g l (c+i)*dt k l a
 | c,l::ls,h,0,l',e,a,kl=>by
  cases e;refine h.1 a fun y hy=>?_;obtain⟨j,hj⟩:=List.getElem?_of_mem hy;exact kl (j+1) y (jd j) hj
 | c,l::ls,h,i+1,l',e,a,kl=>by
  have:=Lh.at h.2 (i:=i) (l:=l') e a fun j y ij hy=>kl (j+1) y (jL ij) hy;rw[show c+(i+1)=c+1+i by lia];exact this
structure Fp (m:Int)(k col:Nat)(ls:List (List Int))(j:Nat)(a:Int->Int):Prop where
 lo:∀i:Nat,i<j->a i=0
 hi:∀i:Nat,col<i->a i=0
 at_:∀l,ls[col]?=some l->a col=m/g l col
 kl:∀(i:Nat)(l:List Int),j<=i->ls[i]?=some l->m∣dt k l a
theorem AC {F:Int->Int}{c:Nat}:∀{k:Nat},c<k->(∀i:Nat,i<k->i≠c->F i=0)->zab k F=F c
 | 0,h,_=>absurd h (bx _)
 | k+1,h,z=>by
  show zab k F+F k=F c
  rcases Nat.lt_succ_iff_lt_or_eq.mp h with y | y
  .rw[AC y fun i hi ne=>z i (bK hi) ne,z k (bO k) J,dF]
  .have:zab k F=0:=by
    rw[zad (G:=fun _=>0) fun i hi=>z i (bK hi) J];exact zbj k
   rw[this,dO,y]
theorem V9 {m:Int}{K k col:Nat}{ls:List (List Int)}(t:CA m K 0 ls)(hc:col<k){l:List Int}(el:ls[col]?=some l):Fp m k col ls col (fun x=>if x=col then m/g l col else 0):=by
 refine⟨fun i hi=>ak J,fun i hi=>ak J,fun l' e=>?_,fun i l' hi e=>?_⟩
 .rw[el] at e;cases e;exact if_pos Z
 .have ti:=t.at e;rw[dY] at ti;have e1:dt k l' (fun x=>if x=(col:Int) then m/g l col else 0)=g l' col*(m/g l col):=by
   unfold dt;rw[AC (c:=col) hc fun j _ ne=>by
    show g l' (j:Int).toNat*(if (j:Int)=col then m/g l col else 0)=0
    rw[ak J,bw]]
   show g l' (col:Int).toNat*(if (col:Int)=col then m/g l col else 0)=_
   rw[aB Z,ae]
  rw[e1];rcases Nat.lt_or_eq_of_le hi with y | y
  .rw[ti.2.1 col y,bn];exact bq _
  .subst y;rw[el] at e;cases e;rw[cZ ti.2.2.2];exact c7 m
theorem Jb {k:Nat}{v:List Int}{a b:Int->Int}(h:∀i:Nat,i<k->g v i≠0->a i=b i):dt k v a=dt k v b:=by
 unfold dt;refine zad fun i hi=>?_;rw[ae]
 by_cases z:g v i=0
 .rw[z,bn,bn]
 .rw[h i hi z]
theorem Mu {F:Int->Int}{c:Nat}{x:Int}:∀{k:Nat},c<k->F c=0->(zab k fun i=>if i=c then x else F i)=zab k F+x
 | 0,h,_=>absurd h (bx _)
 | k+1,h,z=>by
  show (zab k fun i=>if i=c then x else F i)+(if (k:Int)=c then x else F k)=zab k F+F k+x
  rcases Nat.lt_succ_iff_lt_or_eq.mp h with y | y
  .rw[Mu y z,ak J];lia
  .subst y;rw[aB Z,z,zad (G:=F) fun i hi=>ak J];lia
theorem WL {m:Int}(hm:1<=m){K k col p:Nat}{ls:List (List Int)}(t:CA m K 0 ls)(w:Lh m k 0 ls)(hc:col<k)(pc:p<col){a:Int->Int}(b:Fp m k col ls (p+1) a){l:List Int}(el:ls[p]?=some l) :
  g l p∣dt k l a/\Fp m k col ls p (fun x=>if x=p then (-(dt k l a/g l p))%(m/g l p) else a x):=by
 have tp:=t.at el;have hp:=w.at el a fun j l' pj e=>b.kl j l' pj e;rw[dY] at tp hp;obtain⟨ll,lz,l1,r,hr⟩:=tp;have mr:m/g l p=r:=by rw[hr];exact aG _ J
 have r1:1<=r:=by
  rcases Int.lt_or_le r 1 with z | z
  .have:=ay (show r<=0 by lia) (show 0<=g l p by lia);lia
  .exact z
 have dv:g l p∣dt k l a:=by
  rw[mr] at hp;obtain⟨z,hz⟩:=hp;refine⟨z,aT (show r≠0 by lia) ?_⟩;rw[hz,hr];grind
 refine⟨dv,fun i hi=>?_,fun i hi=>?_,fun l' e=>?_,fun i l' hi e=>?_⟩
 .show (if (i:Int)=p then _ else a i)=0
  rw[ak J];exact b.lo i J
 .show (if (i:Int)=p then _ else a i)=0
  rw[ak J];exact b.hi i hi
 .show (if (col:Int)=p then _ else a col)=_
  rw[ak J];exact b.at_ l' e
 .rcases Nat.lt_or_eq_of_le hi with y | y
  .have ti:=t.at e;rw[dY] at ti;rw[Jb (b:=a) fun j hj nz=>?_]
   .exact b.kl i l' y e
   .by_cases z:(j:Int)=p
    .exact absurd (ti.2.1 j J) nz
    .exact ak z
  .subst y;rw[el] at e;cases e;obtain⟨x,hx⟩:=dv;have xq:dt k l a/g l p=x:=by rw[hx];exact aG _ J
   rw[mr,xq];have e1:dt k l (fun y=>if y=(p:Int) then (-x)%r else a y)=dt k l a+g l p*((-x)%r):=by
    have:(fun y:Int=>g l y.toNat*(if y=(p:Int) then (-x)%r else a y))=fun y=>if y=(p:Int) then g l p*((-x)%r) else g l y.toNat*a y:=funext fun y=>by
     by_cases c:y=(p:Int)
     .rw[aB c,aB c,c,ae]
     .rw[ak c,ak c]
    unfold dt;rw[this,Mu (F:=fun y=>g l y.toNat*a y) (c:=p) J (by rw[b.lo p J,bw])]
   rw[e1,hx];obtain⟨z,hz⟩:=mK (-x) r;have:(-x)%r=r*z-x:=J;refine⟨z,?_⟩;rw[this]
   conv=>rhs;rw[hr]
   grind
theorem Fp.not {m:Int}(hm:1<=m){K k col:Nat}{ls:List (List Int)}(t:CA m K 0 ls)(hc:col<k){a:Int->Int}(b:Fp m k col ls 0 a){l:List Int}(el:ls[col]?=some l){left:List Int}(z:∀i,i<col->g left i=0)(nd:¬g l col∣g left col):¬m∣dt k left a:=fun d=>by
 have tp:=t.at el;rw[dY] at tp;obtain⟨_,_,l1,r,hr⟩:=tp;have mr:m/g l col=r:=by rw[hr];exact aG _ J
 have e1:dt k left a=g left col*r:=by
  unfold dt;rw[AC (c:=col) hc fun j _ ne=>?_,ae,b.at_ l el,mr];rw[ae];rcases Nat.lt_or_gt_of_ne ne with y | y
  .rw[z j y,bn]
  .rw[b.hi j y,bw]
 rw[e1] at d;obtain⟨y,hy⟩:=d;have r0:r≠0:=fun q=>by rw[q,bw] at hr;lia
 refine nd ⟨y,aT r0 ?_⟩;rw[aC r,hy]
 conv=>lhs;rw[hr]
 grind
def Rec (m:Int)(k r:Nat)(row:Nat->Int->Int)(G:Int->Int)(v:List Int):Prop:=∀i:Nat,i<k->m∣g v i-(G i+zab r fun j=>g v (k+j.toNat)*row j.toNat i)
theorem Rec.mix {m:Int}{K k r:Nat}{row:Nat->Int->Int}{G1 G2:Int->Int}{u v:List Int}(lu:u.length=K)(lv:v.length=K)(h1:Rec m k r row G1 u)(h2:Rec m k r row G2 v)(a b:Int):Rec m k r row (fun i=>a*G1 i+b*G2 i) (mix u a v b m):=fun i hi=>by
 obtain⟨x,hx⟩:=h1 i hi;obtain⟨y,hy⟩:=h2 i hi;obtain⟨z,hz⟩:=mK (g u i*a+g v i*b) m;have e1:m∣(zab r fun j=>g (zcf u a v b m) (k+j.toNat)*row j.toNat i)-(zab r fun j=>a*(g u (k+j.toNat)*row j.toNat i)+b*(g v (k+j.toNat)*row j.toNat i)):=oC fun j _=>by
  rw[pP lu lv];obtain⟨q,hq⟩:=mK (g u (k+(j:Int).toNat)*a+g v (k+(j:Int).toNat)*b) m;refine⟨q*row (j:Int).toNat i,?_⟩;have:(g u (k+(j:Int).toNat)*a+g v (k+(j:Int).toNat)*b)%m=m*q+(g u (k+(j:Int).toNat)*a+g v (k+(j:Int).toNat)*b):=J;rw[this];grind
 rw[zax,zaj,zaj] at e1;obtain⟨q,hq⟩:=e1;rw[pP lu lv];generalize (zab r fun j=>g (zcf u a v b m) (k+j.toNat)*row j.toNat i)=s at *;generalize (zab r fun j=>g u (k+j.toNat)*row j.toNat i)=s1 at *;generalize (zab r fun j=>g v (k+j.toNat)*row j.toNat i)=s2 at *;refine⟨z+a*x+b*y-q,?_⟩;grind
end Lt
namespace Rx
variable {l a b row other:List Int}{i n:Nat}{x m:Int}
open Lt (g)
theorem BE (h:l.length<=i):g l i=0:=by unfold g;rw[List.getD_eq_getElem?_getD,List.getElem?_eq_none h];rfl
theorem mU {v:Int}(h:l[i]?=some v):g l i=v:=by unfold g;rw[List.getD_eq_getElem?_getD,h];rfl
theorem mW (h:i<l.length):l[i]?=some (g l i):=by
 have e:l[i]?=some l[i]:=az h;rw[e,mU e]
theorem rY {f:Int->Int}(h:i<l.length):g (l.map f) i=f (g l i):=mU (by rw[af,mW h];rfl)
theorem yW {f:Int->Int->Int}(h:i<a.length)(h':i<b.length):g (List.zipWith f a b) i=f (g a i) (g b i):=mU (by rw[cm,mW h,mW h'])
theorem sF (h:i<a.length):g (a++b) i=g a i:=by unfold g;rw[List.getD_eq_getElem?_getD,List.getD_eq_getElem?_getD,List.getElem?_append_left h]
theorem wX (h:a.length=n):g (a++b) (n+i)=g b i:=by unfold g;rw[List.getD_eq_getElem?_getD,List.getD_eq_getElem?_getD,List.getElem?_append_right J];congr 2;lia
theorem CU:g (a.drop n) i=g a (n+i):=by unfold g;rw[List.getD_eq_getElem?_getD,List.getD_eq_getElem?_getD,List.getElem?_drop]
theorem tK (h:x∈l):∃i,i<l.length/\g l i=x:=by
 obtain⟨i,hi,e⟩:=List.getElem_of_mem h;exact⟨i,hi,mU (by rw[az hi,e])⟩
theorem o9 (h:i<l.length):g l i∈l:=ah (mW h)
theorem BX (h:i<n):g (List.replicate n x) i=x:=mU (by rw[fX,aB h])
theorem P1 (l:a.length=b.length)(h:∀i,i<a.length->g a i=g b i):a=b:=by
 refine ip fun i=>?_;rcases Nat.lt_or_ge i a.length with c | c
 .rw[mW c,mW J,h i c]
 .rw[cG c,cG J]
theorem zA {j:Nat}(h:i<a.length):g (a.set i x) j=if j=i then x else g a j:=by
 unfold g;rw[ao,ao]
 by_cases c:j=i
 .rw[aB c,c,eV h];rfl
 .rw[ak c,fD J]
def dot (a b:List Int):Int:=(List.zipWith (· * ·) a b).sum
theorem pE (la:a.length=n)(lb:b.length=n):dot a b=zab n fun i=>g a i.toNat*g b i.toNat:=by
 rw[<-Pl.Im (fun i=>g a i.toNat*g b i.toNat)];unfold dot;congr 1;refine ip fun i=>?_;rw[cm,af];rcases Nat.lt_or_ge i n with c | c
 .rw[mW J,mW J,dH c];rfl
 .rw[cG J,cG J,cG (l:=List.range n) (by rw[gO];omega)];rfl
def uc (row:List Int)(à:Int)(other:List Int)(m:Int):List Int:=if à=0 then row else List.zipWith (fun x y=>(x-à*y)%m) row other
theorem Ag (l:row.length=other.length)(à m:Int):(uc row à other m).length=row.length:=by
 unfold uc;split
 .rfl
 .rw[dX,<-l,gf]
def In (m:Int)(l:List Int):Prop:=∀x∈l,0<=x/\x<m
theorem In.g {m:Int}{l:List Int}(h:In m l)(m0:0<m)(i:Nat):0<=zai l i/\zai l i<m:=by
 rcases Nat.lt_or_ge i l.length with c | c
 .exact h _ (o9 c)
 .rw[BE c];lia
theorem In.mod (m0:0<m)(l:List Int)(f:Int->Int):In m (l.map fun x=>f x%m):=fun x hx=>by
 obtain⟨y,_,rfl⟩:=List.mem_map.mp hx;exact⟨aE _ J,aA _ m0⟩
theorem In.zip (m0:0<m)(a b:List Int)(f:Int->Int->Int):In m (List.zipWith (fun x y=>f x y%m) a b):=fun x hx=>by
 obtain⟨i,hi,e⟩:=List.getElem_of_mem hx;rw[List.getElem_zipWith] at e;rw[<-e];exact⟨aE _ J,aA _ m0⟩
theorem Ou {à:Int}(m0:0<m)(h:In m row):In m (uc row à other m):=by
 unfold uc;split
 .exact h
 .exact In.zip m0 _ _ fun x y=>x-à*y
theorem QV {à:Int}(m0:0<m)(h:In m row)(l:row.length=other.length)(hi:i<row.length):zai (uc row à other m) i=(zai row i-à*zai other i)%m:=by
 unfold uc
 by_cases c:à=0
 .rw[aB c,c,bn,dC,aX (h.g m0 i).1 (h.g m0 i).2]
 .rw[ak c,yW hi J]
def uI (n i:Nat)(x:Int):List Int:=(List.replicate n 0).set i x
theorem pO (n i:Nat)(x:Int):(uI n i x).length=n:=by unfold uI;rw[List.length_set,List.length_replicate]
theorem p4 {j:Nat}(h:i<n):zai (uI n i x) j=if j=i then x else 0:=by
 unfold uI;rw[zA (by rw[aQ];exact h)]
 by_cases c:j=i
 .rw[aB c,aB c]
 .rw[ak c,ak c];rcases Nat.lt_or_ge j n with d | d
  .exact BX d
  .exact BE (by rw[aQ];exact d)
def yf (k:Nat)(è:List (List Int)):List (List Int):=(List.range k).map fun c=>è.map fun row=>g row c
def tX:List Int->List Nat->List Int->List Int
 | l,[],_=>l
 | l,_::_,[]=>l
 | l,p::ps,x::xs=>tX (l.set p x) ps xs
def u9 (n:Nat)(ps:List Nat)(xs:List Int):List Int:=tX (List.replicate n 0) ps xs
theorem C8 (n:Nat)(ps:List Nat)(xs:List Int):u9 n ps xs=tX (List.replicate n 0) ps xs:=rfl
theorem y8:∀(l:List Int)(ps:List Nat)(xs:List Int)(p:Nat)(x:Int),ps.length=xs.length->tX l (ps++[p]) (xs++[x])=(tX l ps xs).set p x
 | l,[],[],p,x,_=>rfl
 | l,q::ps,y::xs,p,x,h=>y8 (l.set q y) ps xs p x (by simpa using h)
 | l,[],_::_,p,x,h=>by simp at h
 | l,_::_,[],p,x,h=>by simp at h
theorem B4:∀(l:List Int)(ps:List Nat)(xs:List Int),(tX l ps xs).length=l.length
 | l,[],_=>by rw[tX]
 | l,_::_,[]=>rfl
 | l,p::ps,x::xs=>by
  show (tX (l.set p x) ps xs).length=l.length
  rw[B4,cq]
theorem o6 (n:Nat)(ps:List Nat)(xs:List Int):(u9 n ps xs).length=n:=by rw[C8,B4,aQ]
theorem tV {c:Nat}:∀(l:List Int)(ps:List Nat)(xs:List Int),c∉ps->(∀p∈ps,p<l.length)->g (tX l ps xs) c=g l c
 | l,[],_,_,_=>by rw[tX]
 | l,_::_,[],_,_=>rfl
 | l,p::ps,x::xs,h,hl=>by
  rw[fT,not_or] at h;show g (tX (l.set p x) ps xs) c=g l c
  rw[tV (l.set p x) ps xs h.2 (fun q hq=>by rw[cq];exact hl q (ar _ hq)),zA (hl p av),ak h.1]
theorem Ej:∀(l:List Int)(ps:List Nat)(xs:List Int),ps.Nodup->(∀p∈ps,p<l.length)->∀(i p:Nat)(x:Int),ps[i]?=some p->xs[i]?=some x->g (tX l ps xs) p=x
 | l,[],_,_,_,i,p,x,h,_=>by simp at h
 | l,_::_,[],_,_,i,p,x,_,h=>by simp at h
 | l,q::ps,y::xs,nd,hl,i,p,x,hp,hx=>by
  rw[fj] at nd;have hl':∀p∈ps,p<(l.set q y).length:=fun z hz=>by rw[cq];exact hl z (ar _ hz)
  show g (tX (l.set q y) ps xs) p=x
  cases i with
  | zero =>
   rw[List.getElem?_cons_zero] at hp hx;cases hp;cases hx;rw[tV _ ps xs nd.1 hl',zA (hl q av),aB Z]
  | succ i =>
   rw[dS] at hp hx;exact Ej (l.set q y) ps xs nd.2 hl' i p x hp hx
theorem uX {n c:Nat}{ps:List Nat}{xs:List Int}(h:c∉ps)(hl:∀p∈ps,p<n):g (u9 n ps xs) c=0:=by
 rw[C8,tV _ ps xs h (fun p hp=>by rw[aQ];exact hl p hp)];rcases Nat.lt_or_ge c n with d | d
 .exact BX d
 .exact BE (by rw[aQ];exact d)
theorem GH {n:Nat}{ps:List Nat}{xs:List Int}(nd:ps.Nodup)(hl:∀p∈ps,p<n){i p:Nat}{x:Int}(hp:ps[i]?=some p)(hx:xs[i]?=some x):g (u9 n ps xs) p=x:=by
 rw[C8];exact Ej _ ps xs nd (fun p hp=>by rw[aQ];exact hl p hp) i p x hp hx
theorem Mj {n:Nat}{F:Int->Int}:∀{ps:List Nat}{xs:List Int}{k:Nat},ps.length=k->xs.length=k->ps.Nodup->(∀p∈ps,p<n) ->
  (zab n fun c=>F c*g (u9 n ps xs) c.toNat)=zab k fun i=>F (ps.getD i.toNat 0)*g xs i.toNat:=by
 intro ps xs k lp lx nd hl
 -- each filled place by â own
 have e1:(zab n fun c=>F c*g (u9 n ps xs) c.toNat)=zab n fun c=>zab k fun i=>if c=(ps.getD i.toNat 0:Int) then F c*g xs i.toNat else 0:=zad fun c hc=>by
  rw[ae]
  by_cases m:c∈ps
  .obtain⟨j,hj,ej⟩:=List.getElem_of_mem m;have pj:ps[j]?=some c:=by rw[az hj,ej]
   rw[GH nd hl pj (mW J)];have uni:∀i:Nat,i<k->(c:Int)=(ps.getD (i:Int).toNat 0:Int)->i=j:=fun i hi z=>by
    have z':c=ps.getD i 0:=by rw[ae] at z;lia
    rw[ao,az (show i<ps.length by lia)] at z';have pw:=de.mp nd;have z2:c=ps[i]'J:=z';rcases Nat.lt_trichotomy i j with q | q | q
    .exact absurd (by rw[<-z2,ej]) (pw i j J hj q)
    .exact q
    .exact absurd (by rw[<-z2,ej]) (pw j i hj J q)
   rw[Lt.AC (c:=j) J fun i hi ne=>ak fun z=>ne (uni i hi z)]
   .have:ps.getD (j:Int).toNat 0=c:=by rw[ae,ao,pj];rfl
    rw[this,aB Z,ae]
  .rw[uX m hl,bw];have non:∀i:Nat,i<k->¬(c:Int)=(ps.getD (i:Int).toNat 0:Int):=fun i hi z=>m (by
    have z':c=ps.getD i 0:=by rw[ae] at z;lia
    rw[ao,az (show i<ps.length by lia)] at z';rw[z'];exact cx _)
   rw[zad (G:=fun _=>0) fun i hi=>ak (non i hi),zbj]
 rw[e1,zbf];refine zad fun i hi=>?_;have pi:ps.getD (i:Int).toNat 0<n:=by
  rw[ae,ao,az (show i<ps.length by lia)];exact hl _ (cx _)
 rw[Ld.Cb (G:=fun c=>F c*g xs (i:Int).toNat) J,aB J]
variable {step:List Int}
open Mx
abbrev Fd:=Nat×Nat×List Int
def st (é:List (List Int)):Nat->Int->Int:=fun j c=>g (é.getD j []) c.toNat
def fn (l:List Int):Int->Int:=fun c=>g l c.toNat
def nm (fs:List Fd)(t:Nat):Nat:=(fs.getD t (0,0,[])).1
def cl (fs:List Fd)(t:Nat):Nat:=(fs.getD t (0,0,[])).2.1
def AN (fs:List Fd)(t:Nat):Int->Int:=fn (fs.getD t (0,0,[])).2.2
def Kh (p:Int)(l:List Int)(f:Fd):List Int:=uc l (g l f.2.1) f.2.2 p
def p8 (p:Int)(fs:List Fd)(step:List Int):List Int:=fs.foldl (Kh p) (step.map fun x=>x%p)
theorem wN (p:Int)(fs:List Fd)(f:Fd)(step:List Int):p8 p (fs++[f]) step=Kh p (p8 p fs step) f:=by unfold p8;rw[List.foldl_append];rfl
theorem E2 (p:Int)(step:List Int):p8 p [] step=step.map fun x=>x%p:=rfl
def P8 (p:Int)(w:Nat)(fs:List Fd):Prop:=∀f∈fs,f.2.2.length=w/\In p f.2.2/\f.2.1<w
theorem tY {p:Int}(p0:0<p){w:Nat}(l:step.length=w):∀{k:Nat}{fs:List Fd},fs.length=k->P8 p w fs->(p8 p fs step).length=w/\In p (p8 p fs step):=by
 intro k
 induction k with
 | zero =>
  intro fs e _;rw[iE e,E2];exact⟨by rw[aa,l],In.mod p0 step fun x=>x⟩
 | succ k ih =>
  intro fs e h;have ne:fs≠[]:=fun z=>by rw[z] at e;cases e
  obtain⟨AO,f,rfl⟩:∃AO f,fs=AO++[f]:=⟨fs.dropLast,fs.getLast ne,(List.dropLast_concat_getLast ne).symm⟩;rw[aI] at e;have r:=ih (fs:=AO) (by simpa using e) fun f hf=>h f (List.mem_append_left _ hf);have hf:=h f (aZ _ av);rw[wN];exact⟨by unfold Kh;rw[Ag (by rw[r.1,hf.1]),r.1],Ou p0 r.2⟩
theorem Ed {p:Int}(p0:0<p){w:Nat}{ã:Nat->Int->Int}{k:Nat}{num col:Nat->Nat}{row:Nat->Int->Int}(cr:FW p w ã k num col row){fs:List Fd}(rk:P8 p w fs)(lk:fs.length<=k)(ag:∀(t:Nat)(f:Fd),fs[t]?=some f->col t=f.2.1/\row t=fn f.2.2)
 (l:step.length=w):JL p w ã k num col (fn step) fs.length (fn (p8 p fs step)):=by
  obtain⟨m,hm⟩:∃m,m=fs.length:=⟨_,Z⟩
  induction m generalizing fs with
  | zero =>
    rw[iE hm.symm,E2];refine JL.start fun c hc=>?_;unfold fn;rw[ae,rY J];exact zbo _ _
  | succ m ih =>
    have ne:fs≠[]:=fun z=>by rw[z] at hm;cases hm
    obtain⟨AO,f,rfl⟩:∃AO f,fs=AO++[f]:=⟨fs.dropLast,fs.getLast ne,(List.dropLast_concat_getLast ne).symm⟩;have rk':P8 p w AO:=fun f hf=>rk f (cA _ hf);have l':AO.length=m:=by rw[aI] at hm;simpa using hm.symm
    have hf:=rk f (aZ _ av);have a:=ih rk' (by rw[aI] at lk;lia) (fun t f h=>ag t f (by rw[dI (by exact(aF.mp h).1)];exact h)) l'.symm;have b:=ag AO.length f (by rw[dD (aH _),jg];rfl);have ok:=tY p0 l Z rk';have e:(AO++[f]).length=AO.length+1:=by rw[aI];rfl
    rw[e,wN];refine JL.step cr (by rw[e] at lk;lia) a fun c hc=>?_;rw[b.1,b.2];unfold fn Kh;rw[ae,ae,QV p0 ok.2 (by rw[ok.1,hf.1]) J];exact zbo _ _
structure rD (p:Int)(w:Nat)(é:List (List Int))(i:Nat)(fs:List Fd):Prop where
 cor:FW p w (st é) fs.length (nm fs) (cl fs) (AN fs)
 rok:P8 p w fs
 lt:∀f∈fs,f.1<i
 srt:fs.Pairwise fun a b=>a.1<b.1
 all:∀j,j<i->Hm p w (st é) fs.length (nm fs) (st é j)
theorem rD.start (p:Int)(w:Nat)(é:List (List Int)):rD p w é 0 [] :=
 ⟨FW.start ..,fun f h=>(nomatch h),fun f h=>(nomatch h),.nil,fun j h=>absurd h (bx _)⟩
theorem getD_at {fs:List Fd}{t:Nat}{f:Fd}(h:fs[t]?=some f):fs.getD t (0,0,[])=f:=by rw[ao,h];rfl
theorem rD.p8 {p:Int}(p0:0<p){w:Nat}{é:List (List Int)}{i:Nat}{fs:List Fd}(h:rD p w é i fs){step:List Int}(l:step.length=w):JL p w (st é) fs.length (nm fs) (cl fs) (fn step) fs.length (fn (p8 p fs step)) :=
 Ed p0 h.cor h.rok (aH _) (fun t f e=>⟨by unfold cl;rw[getD_at e],by unfold AN;rw[getD_at e]⟩) l
theorem rD.hm {p:Int}(p0:0<p){w:Nat}{é:List (List Int)}{i:Nat}{fs:List Fd}(h:rD p w é i fs)(l:step.length=w)(z:∀c,c<w->g (Rx.p8 p fs step) c=0):Hm p w (st é) fs.length (nm fs) (fn step):=by
 obtain⟨x,hx⟩:=(h.p8 p0 l).eq;refine⟨x,fun c hc=>?_⟩;have a:=hx c hc;unfold fn at a;rw[ae,z c hc] at a;have:=eM.mpr a;unfold fn;rw[ae];rwa [show ∀x y:Int,-(0-(x-y))=x-y from fun x y=>by lia] at this
theorem Mo {é:List (List Int)}{i:Nat}(e:é[i]?=some step):st é i=fn step:=by
 unfold st fn;funext c;rw[ao,e];rfl
theorem rD.none {p:Int}(p0:0<p){w:Nat}{é:List (List Int)}{i:Nat}{fs:List Fd}(h:rD p w é i fs)(e:é[i]?=some step)(l:step.length=w)(z:∀c,c<w->g (Rx.p8 p fs step) c=0):rD p w é (i+1) fs:=by
 refine⟨h.cor,h.rok,fun f hf=>bK (h.lt f hf),h.srt,fun j hj=>?_⟩;rcases Nat.lt_succ_iff_lt_or_eq.mp hj with q | q
 .exact h.all j q
 .rw[q,Mo e];exact h.hm p0 l z
theorem rD.some {p:Int}(hp:zak p){w:Nat}{é:List (List Int)}{i:Nat}{fs:List Fd}(h:rD p w é i fs){step:List Int}(e:é[i]?=some step)(l:step.length=w){c:Nat}(hc:c<w)(nz:g (Rx.p8 p fs step) c≠0){u:Int}(hu:p∣g (Rx.p8 p fs step) c*u-1) :
  rD p w é (i+1) (fs++[(i,c,(Rx.p8 p fs step).map fun x=>x*u%p)]):=by
 have p2:=hp.1;have p0:0<p:=J;have ok:=tY p0 l Z h.rok;obtain⟨f,hf⟩:∃f:Fd,f=(i,c,(Rx.p8 p fs step).map fun x=>x*u%p):=⟨_,Z⟩;rw[<-hf];have Py:∀t,t<fs.length->(fs++[f]).getD t (0,0,[])=fs.getD t (0,0,[]):=fun t ht=>by rw[ao,ao,dI ht]
 have at2:(fs++[f]).getD fs.length (0,0,[])=f:=getD_at (by rw[dD (aH _),jg];rfl);have cr:=h.cor.congr (num':=nm (fs++[f])) (col':=cl (fs++[f])) (row':=AN (fs++[f])) (fun t ht=>by unfold nm;rw[Py t ht]) (fun t ht=>by unfold cl;rw[Py t ht]) (fun t ht=>by unfold AN;rw[Py t ht]);have en:nm (fs++[f]) fs.length=i:=by unfold nm;rw[at2,hf]
 have ec:cl (fs++[f]) fs.length=c:=by unfold cl;rw[at2,hf]
 have er:AN (fs++[f]) fs.length=fn ((Rx.p8 p fs step).map fun x=>x*u%p):=by unfold AN;rw[at2,hf]
 have OL:=Ed p0 cr h.rok (aH _) (fun t f' e'=>by
  have tl:=(aF.mp e').1;refine⟨by unfold cl;rw[Py t tl,getD_at e'],by unfold AN;rw[Py t tl,getD_at e']⟩) l
 have fg:fn (Rx.p8 p fs step) c=g (Rx.p8 p fs step) c:=by unfold fn;rw[Int.toNat_natCast]
 have lt:=ok.2.g p0 c;have le:(fs++[f]).length=fs.length+1:=by rw[aI];rfl
 have cor:=cr.snoc hp (left:=fn (Rx.p8 p fs step)) (by rw[en,Mo e];exact OL) (by rw[ec];exact hc) (by
  rw[ec,fg];exact fun d=>by
   have:=aW (show 0<g (Rx.p8 p fs step) c by lia) d;lia) (u:=u) (by rw[ec,fg];exact hu) (fun c' xW=>by
   rw[er];unfold fn;rw[ae,rY J];exact zbo _ _)
 refine⟨by rw[le];exact cor,fun f' YF=>?_,fun f' YF=>?_,?_,fun j hj=>?_⟩
 .rcases List.mem_append.mp YF with q | q
  .exact h.rok f' q
  .rw[bF.mp q,hf];exact⟨by rw[aa,ok.1],In.mod p0 _ fun x=>x*u,hc⟩
 .rcases List.mem_append.mp YF with q | q
  .exact bK (h.lt f' q)
  .rw[bF.mp q,hf];exact bO i
 .rw[fG];refine⟨h.srt,gX ..,fun a ha b hb=>?_⟩;rw[bF.mp hb,hf];exact h.lt a ha
 .rw[le];rcases Nat.lt_succ_iff_lt_or_eq.mp hj with q | q
  .obtain⟨x,hx⟩:=h.all j q;refine⟨fun s=>if s=(fs.length:Int) then 0 else x s,fun c' xW=>?_⟩;have a:=hx c' xW;have b:(zab (fs.length+1) fun s=>(if s=(fs.length:Int) then 0 else x s)*st é (nm (fs++[f]) s.toNat) c')=zab fs.length fun s=>x s*st é (nm fs s.toNat) c':=by
    show (zab fs.length fun s=>(if s=(fs.length:Int) then 0 else x s)*st é (nm (fs++[f]) s.toNat) c')+(if (fs.length:Int)=fs.length then 0 else x fs.length)*st é (nm (fs++[f]) (fs.length:Int).toNat) c'=_
    rw[aB Z,bn,dF];refine zad fun s hs=>?_;rw[ak J,ae];have:nm (fs++[f]) s=nm fs s:=by unfold nm;rw[Py s hs]
    rw[this]
   rw[b];exact a
  .rw[q];refine⟨fun s=>if s=(fs.length:Int) then 1 else 0,fun c' xW=>?_⟩;have b:(zab (fs.length+1) fun s=>(if s=(fs.length:Int) then 1 else 0)*st é (nm (fs++[f]) s.toNat) c')=st é i c':=by
    rw[zad (G:=fun s=>st é (nm (fs++[f]) s.toNat) c'*if s=(fs.length:Int) then 1 else 0) fun s _=>aC ..,mY (F:=fun s=>st é (nm (fs++[f]) s.toNat) c') (bO _),ae,en]
   rw[b,cC];exact bq _
theorem rD.fr {p:Int}{w:Nat}{é:List (List Int)}{n:Nat}{fs:List Fd}(h:rD p w é n fs):Fr p w n (st é) fs.length (nm fs) (cl fs):=by
 refine⟨h.cor.colw,fun t ht=>?_,h.cor.ind _ (aH _),h.all⟩;unfold nm;rw[getD_at (az ht)];exact h.lt _ (cx ht)
variable {è ls:List (List Int)}{i k:Nat}{m:Int}{M:Int->Int->Int}
def mt (è:List (List Int)):Int->Int->Int:=fun i j=>g (è.getD i.toNat []) j.toNat
theorem tU {row:List Int}(h:è[i]?=some row):è.getD i []=row:=by rw[ao,h];rfl
theorem uV (è:List (List Int))(i j:Nat):mt è i j=g (è.getD i []) j:=by unfold mt;rw[Int.toNat_natCast,Int.toNat_natCast]
theorem m7 (h:i<è.length):è[i]?=some (è.getD i []):=by rw[ao,az h];rfl
theorem mO (h:i<è.length):è.getD i []∈è:=ah (m7 h)
theorem ED {row other:List Int}{à:Int}(l:row.length=other.length)(hi:i<row.length):m∣g (uc row à other m) i-(g row i-à*g other i):=by
 unfold uc
 by_cases c:à=0
 .rw[aB c,c,bn,dC,cC];exact bq _
 .rw[ak c,yW hi J];exact zbo _ _
def aug (k:Nat)(è:List (List Int)):List (List Int):=è.mapIdx fun i row=>row++uI k i 1
def wl (k:Nat)(ls:List (List Int)):Int->Int->Int:=fun i j=>g (ls.getD i.toNat []) j.toNat
def wr (k:Nat)(ls:List (List Int)):Int->Int->Int:=fun i t=>g (ls.getD i.toNat []) (k+t.toNat)
def tS (m:Int)(c:Nat)(v:Int)(ls:List (List Int)):List (List Int) :=
 (ls.map fun row=>uc row (g row c) ((ls.getD c []).map fun x=>x*v%m) m).set c ((ls.getD c []).map fun x=>x*v%m)
theorem M8 (lr:è.length=k)(lw:∀row∈è,row.length=k):Gj m k (mt è) 0 (wl k (aug k è)) (wr k (aug k è)):=by
 have at_:∀i:Nat,i<k->(aug k è).getD i []=è.getD i []++uI k i 1:=fun i hi=>by
  refine tU ?_;unfold aug;rw[List.getElem?_mapIdx,m7 J];rfl
 have len:∀i:Nat,i<k->(è.getD i []).length=k:=fun i hi=>lw _ (mO J);have A:∀i j:Nat,i<k->j<k->wl k (aug k è) i j=mt è i j:=fun i j hi hj=>by
  unfold wl;rw[Int.toNat_natCast,Int.toNat_natCast,at_ i hi,uV,sF (by rw[len i hi];exact hj)]
 have B:∀i t:Nat,i<k->wr k (aug k è) i t=if t=i then 1 else 0:=fun i t hi=>by
  unfold wr;rw[Int.toNat_natCast,Int.toNat_natCast,at_ i hi,wX (len i hi),p4 hi]
 have s:=Gj.start (m:=m) (k:=k) (M:=mt è);refine⟨fun i j hi hj=>?_,fun i j _ hj=>absurd hj (bx _),fun i t hi ht _ ne=>?_,fun i hi _=>?_⟩
 .rw[A i j hi hj];have a:=s.rc i j hi hj;have e:(zab k fun t=>wr k (aug k è) i t*mt è t j)=zab k fun t=>(fun (i t:Int)=>if t=i then (1:Int) else 0) i t*mt è t j:=zad fun t ht=>by
   rw[B i t hi]
   by_cases c:t=i
   .rw[aB c];dsimp only;rw[if_pos J]
   .rw[ak c];dsimp only;rw[if_neg J]
  rw[e];exact a
 .rw[B i t hi,ak ne];exact bq _
 .rw[B i i hi,aB Z,cC];exact bq _
theorem Kb {c:Nat}(ll:ls.length=k)(lw:∀row∈ls,row.length=k+k)(h:Gj m k M c (wl k ls) (wr k ls))(hc:c<k){v:Int}(hv:m∣g (ls.getD c []) c*v-1) :
  Gj m k M (c+1) (wl k (tS m c v ls)) (wr k (tS m c v ls)):=by
 have len:∀i:Nat,i<k->(ls.getD i []).length=k+k:=fun i hi=>lw _ (mO J);have own:(tS m c v ls).getD c []=(ls.getD c []).map fun x=>x*v%m:=by
  refine tU ?_;unfold tS;rw[eV ziU]
 have OI:∀i:Nat,i<k->i≠c->(tS m c v ls).getD i []=uc (ls.getD i []) (g (ls.getD i []) c) ((ls.getD c []).map fun x=>x*v%m) m:=fun i hi ne=>by
  refine tU ?_;unfold tS;rw[fD J,af,m7 J];rfl
 have cg:∀j:Nat,j<k+k->g ((ls.getD c []).map fun x=>x*v%m) j=g (ls.getD c []) j*v%m:=fun j hj=>rY (by rw[len c hc];exact hj);have o1:∀j:Nat,j<k+k->m∣g ((tS m c v ls).getD c []) j-g (ls.getD c []) j*v:=fun j hj=>by rw[own,cg j hj];exact zbo _ _
 have o2:∀i j:Nat,i<k->i≠c->j<k+k->m∣g ((tS m c v ls).getD i []) j-(g (ls.getD i []) j-g (ls.getD i []) c*(g (ls.getD c []) j*v)):=fun i j hi ne hj=>by
  rw[OI i hi ne];have a:=ED (m:=m) (à:=g (ls.getD i []) c) (row:=ls.getD i []) (other:=(ls.getD c []).map fun x=>x*v%m) (by rw[aa,len i hi,len c hc]) (i:=j) (by rw[len i hi];exact hj);rw[cg j hj] at a;have b:m∣g (ls.getD i []) c*(g (ls.getD c []) j*v%m-g (ls.getD c []) j*v):=ax (zbo _ _);have:=bp a b;generalize g (ls.getD c []) j*v%m=y at *;rwa [show ∀a b d e:Int,a-(b-d*y)-d*(y-e)=a-(b-d*e) from fun a b d e=>by grind] at this
 refine h.step hc (v:=v) ?_ (fun j hj=>?_) (fun t ht=>?_) (fun i j hi ne hj=>?_) (fun i t hi ne ht=>?_)
 .unfold wl;rw[Int.toNat_natCast];exact hv
 .unfold wl;rw[Int.toNat_natCast,Int.toNat_natCast];exact o1 j J
 .unfold wr;rw[Int.toNat_natCast,Int.toNat_natCast];exact o1 (k+t) J
 .unfold wl;rw[Int.toNat_natCast,Int.toNat_natCast,Int.toNat_natCast];exact o2 i j hi ne J
 .unfold wr wl;rw[Int.toNat_natCast,Int.toNat_natCast,Int.toNat_natCast];exact o2 i (k+t) hi ne J
theorem GV {c:Nat}{v:Int}(ll:ls.length=k)(hc:c<k)(lw:∀row∈ls,row.length=k+k):(tS m c v ls).length=k/\∀row∈tS m c v ls,row.length=k+k:=by
 have lc:(ls.getD c []).length=k+k:=lw _ (mO J);refine⟨by unfold tS;rw[List.length_set,List.length_map,ll],fun row hr=>?_⟩;unfold tS at hr;rcases List.mem_or_eq_of_mem_set hr with q | q
 .obtain⟨r,JU,rfl⟩:=List.mem_map.mp q;rw[Ag (by rw[aa,lc,lw r JU]),lw r JU]
 .rw[q,aa,lc]
theorem KI (ll:ls.length=k)(h:Gj m k M k (wl k ls) (wr k ls)):LI m k (mt (ls.map fun row=>row.drop k)) M:=by
 have e:=h.end;intro i j hi hj;have a:=e i j hi hj;have b:(zab k fun t=>mt (ls.map fun row=>row.drop k) i t*M t j)=zab k fun t=>wr k ls i t*M t j:=zad fun t ht=>by
  rw[uV];unfold wr;rw[ae,ae,tU (row:=(ls.getD i []).drop k) (by rw[af,m7 J];rfl),CU]
 rw[b];exact a
theorem J0 {p:Int}(hp:zak p){x:Int}(nx:¬p∣x){E:Nat}{d:Int}(d1:1<=d)(dm:d∣p^E)(dx:d∣x):d=1:=by
 have c:=Pt.K8 hp nx;have c2:Nat.Coprime (p.natAbs^E) x.natAbs:=jp E c;have a:d.natAbs∣p.natAbs^E:=by rw[<-j8];exact bi.mpr dm
 have b:d.natAbs∣x.natAbs:=bi.mpr dx;have:=Nat.dvd_gcd a b;rw[c2] at this;have:=gR Nat.one_pos this;lia
end Rx
open Rx renaming fn→zaf, st→zan, dot→zao, cl→zar, mt→zat, Fd→zau, nm→zay, o9→zbd, p8→zbe, u9→zbi, mU→zbk, mO→zbm, uI→zbw, tU→zbx, m7→zbz, aug→zcb, yf→zcj, tK→zck, mW→zcl, uc→zcp, pO→zda
namespace Mx
variable {R:Int->Int->Int}
theorem zQ {p:Int}(p2:2<=p){k:Nat}(ci:CI p k R){ê:Int->Int}{D b:Int}{y x:Int->Int}(b0:0<b)(hy:∀i:Nat,i<k->(zab k fun t=>R i t*y t)=D*ê i)(hx:∀i:Nat,i<k->(zab k fun t=>R i t*x t)=b*ê i)
 (one:∀d:Int,d∣b->(∀t:Nat,t<k->d∣x t)->d∣1):b∣D/\∀t:Nat,t<k->D*x t=b*y t:=by
  have e:∀t:Nat,t<k->D*x t=b*y t:=fun t ht=>by
    have:=ci.inj p2 (y:=fun t=>D*x t-b*y t) (fun i hi=>by
      have:(zab k fun t=>R i t*(D*x t-b*y t))=D*(zab k fun t=>R i t*x t) + -b*zab k fun t=>R i t*y t:=by
        rw[<-zaj,<-zaj,<-zax];exact zad fun t _=>by grind
      rw[this,hx i hi,hy i hi];grind) t ht
    have z:D*x t-b*y t=0:=this;lia
  refine⟨?_,e⟩;obtain⟨G,hG⟩:∃G:Nat,G=Int.gcd b D:=⟨_,Z⟩;obtain⟨b',hb⟩:(G:Int)∣b:=by rw[hG];exact Int.gcd_dvd_left ..
  obtain⟨D',hD⟩:(G:Int)∣D:=by rw[hG];exact Int.gcd_dvd_right ..
  have G0:0<G:=by
    rcases Nat.eq_zero_or_pos G with z | z
    · rw[z] at hb;have:b=0:=by rw[hb];exact bn _
      lia
    · exact z
  have BF:Int.gcd b' D'=1:=by
    rw[hb,hD,iA,cD] at hG;have:G*1=G*Int.gcd b' D':=by rw[iD];exact hG
    exact(gK G0 this).symm
  have d1:b'∣1:=one b' ⟨G,by rw[hb,aC]⟩ fun t ht=>by
    have h:=e t ht;rw[hb,hD] at h;have h':D'*x t=b'*y t:=aT (show (G:Int)≠0 by lia) (by rw[<-aK,<-aK];exact h);have d:b'∣D'*x t:=⟨y t,h'⟩;have d':=bi.mpr d;rw[aR] at d';exact bi.mp (eQ BF d')
  obtain⟨z,hz⟩:=d1;refine⟨z*D',?_⟩;rw[hD,hb];have:(G:Int)*D'=G*(b'*z)*D':=by rw[<-hz,b3]
  rw[this];grind
theorem Vs {p:Int}(hp:zak p){k C G:Nat}(hC:1<=C){ê:Int->Int}(ci:CI p k R)(hR:∀i t:Nat,i<k->t<k->(R i t).natAbs<=C)(hg:∀i:Nat,i<k->(ê i).natAbs<=G){D:Nat}(D1:1<=D)(al:∀v:Int->Int,La k R fun i=>D*v i) :
  ∃(x:Int->Int)(s:Int),0<s/\¬p∣s/\(∀i:Nat,i<k->(zab k fun t=>R i t*x t)=s*ê i)/\s∣D/\(∀t:Nat,t<k->(x t).natAbs<=k*(D*(zaw k C*G)))/\∀d:Int,d∣s->(∀t:Nat,t<k->d∣x t)->d∣1:=by
 have p2:=hp.1;obtain⟨x,s,s0,ps,hx,_,_,one⟩:=zK hp (C:=C+G) J ci (fun i t hi ht=>Nat.le_trans (hR i t hi ht) J) (fun i hi=>Nat.le_trans (hg i hi) J)
 -- what YG each place in
 have ex:∀j:Nat,∃X:Int->Int,j<k->(∀i:Nat,i<k->(zab k fun t=>R i t*X t)=D*if i=j then 1 else 0)/\∀t:Nat,t<k->(X t).natAbs<=D*zaw k C:=fun j=>by
  by_cases hj:j<k
  .obtain⟨z,s',Px,_,hz,zb,_,YH⟩:=zK hp hC (ê:=fun i=>if i=(j:Int) then 1 else 0) ci hR (fun i hi=>by
    show (if (i:Int)=j then (1:Int) else 0).natAbs<=C
    by_cases c:(i:Int)=j
    .rw[aB c];exact hC
    .rw[ak c];exact cX _)
   obtain⟨X,hX⟩:=al fun i=>if i=(j:Int) then 1 else 0;obtain⟨sd,e⟩:=zQ p2 ci (ê:=fun i=>if i=(j:Int) then 1 else 0) Px hX hz YH;refine⟨X,fun _=>⟨fun i hi=>?_,fun t ht=>?_⟩⟩
   .have:=hX i hi;dsimp only at this;rw[this]
    by_cases c:i=j
    .rw[aB c,aB J]
    .rw[ak c,ak J]
   .have n:=cU Int.natAbs (e t ht);rw[aR,aR,cD] at n;have a:=eR D (zb t ht);have b:=cJ (X t).natAbs (show 1<=s'.natAbs by lia);lia
  .exact⟨fun _=>0,fun h=>absurd h hj⟩
 obtain⟨X,hX⟩:=Classical.axiomOfChoice ex;have hy:∀i:Nat,i<k->(zab k fun t=>R i t*(fun t=>zab k fun j=>X j.toNat t*ê j) t)=D*ê i:=fun i hi=>by
  have a:(zab k fun t=>R i t*zab k fun j=>X j.toNat t*ê j)=zab k fun j=>zab k fun t=>R i t*X j.toNat t*ê j:=by
   rw[zbf];exact zad fun t _=>by rw[<-zaj];exact zad fun j _=>by grind
  show (zab k fun t=>R i t*zab k fun j=>X j.toNat t*ê j)=D*ê i
  rw[a];have b:(zab k fun j=>zab k fun t=>R i t*X j.toNat t*ê j)=zab k fun j=>D*ê j*if j=(i:Int) then 1 else 0:=zad fun j hj=>by
   rw[zcg,ae,(hX j hj).1 i hi]
   by_cases c:i=j
   .rw[aB c,aB J];grind
   .rw[ak c,ak J];grind
  rw[b,mY (F:=fun j=>D*ê j) hi]
 obtain⟨sd,e⟩:=zQ p2 ci s0 hy hx one;refine⟨x,s,s0,ps,hx,sd,fun t ht=>?_,one⟩;have n:=cU Int.natAbs (e t ht);rw[aR,aR,cD] at n;have yb:=Sg.yo (m:=k) (F:=fun j=>X j.toNat t*ê j) (B:=D*(zaw k C*G)) fun j hj=>by
  show (X (j:Int).toNat t*ê j).natAbs<=_
  rw[aR,ae,<-gS];exact dr ((hX j hj).2 t ht) (hg j hj)
 have sD:s.natAbs<=D:=gR D1 (by have:=bi.mpr sd;rwa [cD] at this);have a:=dr sD yb;rw[<-n] at a;exact iP a D1
end Mx
namespace Rx
open Lt (g)
open Mx
def cn (n m:Int):Int:=if 2*(n%m)<=m then n%m else n%m-m
inductive AL (sc H:Int):List Int->Int->Prop where
 | nil:AL sc H [] 1
 | snoc {l:List Int}{b x r0 r1 c0 c1:Int}:AL sc H l b->zdf sc (x*b%sc) r0 r1 c0 c1->H<=r0->r1<H->AL sc H (l++[x]) (b*c1.natAbs)
theorem AL.pos {sc H:Int}(HH:H<=sc){l:List Int}{b:Int}(h:AL sc H l b):0<b:=by
 induction h with
 | nil=>decide
 | @snoc l b x r0 r1 c0 c1 _ s _ lt ih =>
  have ne:=s.Mz J;exact iF ih J
theorem AL.done {p:Int}(hp:zak p){E:Nat}{s:Int}(s0:0<s)(ps:¬p∣s){B H:Int}(sB:s<=B)(hH:4*B<=H)(HH:H*H<=p^E){x:Nat->Int}{l:List Int}{b:Int}(h:AL (p^E) H l b) :
  (∀t,t<l.length->p^E∣s*g l t-x t)->(∀t,t<l.length->((x t).natAbs:Int)<=B)->0<b/\b∣s/\∀t,t<l.length->s∣b*x t:=by
 induction h with
 | nil=>exact fun _ _=>⟨O,gn _,fun t ht=>absurd ht (bx _)⟩
 | @snoc l b y r0 r1 c0 c1 _ st h0 h1 ih =>
  intro hr hx;have len:(l++[y]).length=l.length+1:=by rw[aI];rfl
  obtain⟨b0,bs,al⟩:=ih (fun t ht=>by have:=hr t J;rwa [sF ht] at this) (fun t ht=>hx t J);have e:g (l++[y]) l.length=y:=by have:=wX (a:=l) (b:=[y]) (n:=l.length) (i:=0) Z;rw[Nat.add_zero] at this;rw[this];rfl
  have hy:=hr l.length J;rw[e] at hy;obtain⟨T6,d1,d2⟩:=WS hp s0 ps b0 bs hy sB (hx l.length J) hH HH st h0 h1;refine⟨iF b0 T6,d1,fun t ht=>?_⟩;rcases Nat.lt_or_ge t l.length with q | q
  .have:=ax (b:=(c1.natAbs:Int)) (al t q);rwa [show (c1.natAbs:Int)*(b*x t)=b*c1.natAbs*x t by grind] at this
  .have:t=l.length:=J;rw[this];exact d2
theorem sV {p q:Int}(hp:zak p)(hq:zak q):∀{E:Nat},q∣p^E->q=p
 | 0,h=>by
  rw[eY] at h;have:=aW O h;have:=hq.1;lia
 | E+1,h=>by
  rw[bu] at h
  by_cases c:q∣p^E
  .exact sV hp hq c
  .have d:=oI hq h c;have a:=aW (by have:=hp.1;lia) d;rcases Int.lt_or_le q p with l | l
   .exact absurd d (hp.2 q hq.1 l)
   .lia
theorem AL.red {p:Int}(hp:zak p){E:Nat}{H Bt:Int}(HH:2*(H*H)<=p^E)(H0:1<=H)(BH:Bt<H){q:Int}(hq:zak q){l:List Int}{b:Int}(h:AL (p^E) H l b) :
  ∀e:Int,1<=e->b*e=Bt->¬q∣e->q∣b->(∀x∈l,q∣cn (x*Bt) (p^E))->(q=p->∀x∈l,p^E∣cn (x*Bt) (p^E)/p-Bt/p*x)->eC:=by
 have T7:H<=H*H:=by have:=aq H0 (show 0<=H by lia);lia
 induction h with
 | nil =>
  intro e _ _ _ d _ _;have:=aW O d;have:=hq.1;lia
 | @snoc l b x r0 r1 c0 c1 fr s h0 h1 ih =>
  intro e e1 eb qe qb tp ex;have b0:=fr.pos J;have ne:=s.Mz J;have T6:0<(c1.natAbs:Int):=J;have bc:1<=b*c1.natAbs:=iF b0 T6;have T8:=s.p1
  by_cases qc:q∣(c1.natAbs:Int)
  .have YI:q∣c1:=gI.mp qc;have eB:e<=Bt:=by rw[<-eb];have:=aq bc (show 0<=e by lia);lia
   obtain⟨m0,m1,_,Po,det⟩:=s.m;obtain⟨τ,PC⟩:∃τ:Int,τ=if 0<=c1 then r1*e else -(r1*e):=⟨_,Z⟩;have small:r1*e<=(H-1)*(H-1):=cL J J J J;have sq:(H-1)*(H-1)=H*H-2*H+1:=by grind
   have re0:0<=r1*e:=bI T8 J;have τa:((τ.natAbs:Nat):Int)=r1*e:=by rw[PC];split<;>omega
   have scp:0<p^E:=J;obtain⟨v,hv⟩:=zbo (x*b) (p^E);have con:p^E∣x*Bt-τ:=by
    rw[<-eb,PC]
    by_cases sg:0<=c1
    .rw[aB sg,show (c1.natAbs:Int)=c1 by lia];refine⟨e*(-(c1*v)-m1),?_⟩;have:x*b=x*b%p^E-p^E*v:=J;have z:x*(b*c1*e)=x*b*c1*e:=by grind
     rw[z,this,Po];grind
    .rw[ak sg,show (c1.natAbs:Int)=-c1 by lia];refine⟨e*(c1*v+m1),?_⟩;have:x*b=x*b%p^E-p^E*v:=J;have z:x*(b * -c1*e)=-(x*b*c1*e):=by grind
     rw[z,this,Po];grind
   have ce:cn (x*Bt) (p^E)=τ:=Hl scp con (by rw[τa];lia);have qτ:=tp x (aZ _ av);rw[ce] at qτ;have qr:q∣r1:=by
    have:q∣e*r1:=by
     have a:q∣(τ.natAbs:Int):=gI.mpr qτ;rw[τa,aC] at a;exact a
    exact oI hq this qe
   have qm1:¬q∣m1:=fun d=>by
    have a:q∣m0*c1-m1*c0:=bp (ax YI) (aD d);have b:q∣1:=by
     rcases det with z | z
     .rwa [z] at a
     .rw[z] at a;exact eM.mp a
    have:=aW O b;have:=hq.1;lia
   have qsc:q∣p^E:=by
    have a:q∣r1-c1*(x*b%p^E):=bp qr (aD YI);rw[show r1-c1*(x*b%p^E)=m1*p^E by lia] at a;exact oI hq a qm1
   have qp:=sV hp hq qsc;subst qp;have q0:q≠0:=by have:=hq.1;lia
   obtain⟨AR,YJ⟩:=YI;obtain⟨E6,JB⟩:=qr;have fin:=ex Z x (aZ _ av);rw[ce] at fin;have key:q^E∣e*(E6-AR*(x*b)):=by
    by_cases sg:0<=c1
    .rw[aB sg] at PC;have d1:τ/q=E6*e:=by rw[PC,JB,aK,aG _ q0]
     have d2:Bt/q=b*AR*e:=by
      rw[<-eb,show (c1.natAbs:Int)=c1 by lia,YJ,show b*(q*AR)*e=q*(b*AR*e) by grind,Int.mul_ediv_cancel_left _ q0]
     rw[d1,d2] at fin;rwa [show E6*e-b*AR*e*x=e*(E6-AR*(x*b)) by grind] at fin
    .rw[ak sg] at PC;have d1:τ/q=-(E6*e):=by rw[PC,JB,show -(q*E6*e)=q * -(E6*e) by grind,Int.mul_ediv_cancel_left _ q0]
     have d2:Bt/q=-(b*AR*e):=by
      rw[<-eb,show (c1.natAbs:Int)=-c1 by lia,YJ,show b * -(q*AR)*e=q * -(b*AR*e) by grind,Int.mul_ediv_cancel_left _ q0]
     rw[d1,d2] at fin;have:=eM.mpr fin;rwa [show -(-(E6*e) - -(b*AR*e)*x)=e*(E6-AR*(x*b)) by grind] at this
   have k2:=sU hp qe E key;have k3:q^E∣E6-AR*(x*b%q^E):=by
    have:=bp k2 (ax (b:=AR) (zbo (x*b) (q^E)));rwa [show E6-AR*(x*b)-AR*(x*b%q^E-x*b)=E6-AR*(x*b%q^E) by grind] at this
   obtain⟨y,hy⟩:=k3;refine qm1 ⟨y,Int.eq_of_mul_eq_mul_right (show q^E≠0 by lia) ?_⟩;have a:r1-c1*(x*b%q^E)=m1*q^E:=J;rw[<-a,JB,YJ];have:q*E6-q*AR*(x*b%q^E)=q*(E6-AR*(x*b%q^E)):=by grind
   rw[this,hy];grind
  .have YK:q∣b:=by
    rw[aC] at qb;exact oI hq qb qc
   refine ih (c1.natAbs*e) (iF T6 J) (by rw[<-aK];exact eb) (fun d=>qe (oI hq d qc)) YK (fun x hx=>tp x (cA _ hx)) (fun z x hx=>ex z x (cA _ hx))
theorem AL.BF {p:Int}(hp:zak p){E:Nat}{H:Int}(HH:2*(H*H)<=p^E)(H0:1<=H){k:Nat}{R:Int->Int->Int}(ci:CI p k R){l:List Int}(ll:l.length=k){b:Int}(h:AL (p^E) H l b)(bH:b<H){ê left:Int->Int}
  (lf:∀i:Nat,i<k->(zab k fun t=>R i t*fn l t)+p^E*left i=ê i)(sol:∀i:Nat,i<k->(zab k fun t=>R i t*cn (fn l t*b) (p^E))=b*ê i) :
  ∀d:Int,d∣b->(∀t:Nat,t<k->d∣cn (fn l t*b) (p^E))->d∣1:=fun d db dt=>by
 have T7:H<=H*H:=by have:=aq H0 (show 0<=H by lia);lia
 have b0:=h.pos J;have d0:d≠0:=fun z=>by rw[z] at db;have:=gC.mp db;lia
 by_cases c:d.natAbs=1
 .exact bi.mp (by rw[c];exact jf 1)
 .exfalso;obtain⟨q,hq,qd'⟩:=Pt.B8 (n:=(d.natAbs:Int)) J;have qd:q∣d:=gI.mp qd';have á:∀x∈l,∃t:Nat,t<k/\fn l t=x:=fun x hx=>by
   obtain⟨t,ht,e⟩:=tK hx;exact⟨t,J,by unfold fn;rw[Int.toNat_natCast];exact e⟩
  refine h.red hp HH H0 bH hq 1 O (b3 b) (fun z=>?_) (bJ qd db) (fun x hx=>?_) (fun e=>?_)
  .have:=aW O z;have:=hq.1;lia
  .obtain⟨t,ht,e⟩:=á x hx;rw[<-e];exact bJ qd (dt t ht)
  .subst e;have q0:q≠0:=by have:=hq.1;lia
   obtain⟨b',hb⟩:=Int.dvd_trans qd db;have al:=ci.pow (by have:=hq.1;lia) E (y:=fun t=>cn (fn l t*b) (q^E)/q-b'*fn l t) fun i hi=>by
    have e1:q*(zab k fun t=>R i t*(cn (fn l t*b) (q^E)/q-b'*fn l t))=(zab k fun t=>R i t*cn (fn l t*b) (q^E)) + -b*zab k fun t=>R i t*fn l t:=by
     rw[<-zaj,<-zaj,<-zax];refine zad fun t ht=>?_;have z:=cZ (bJ qd (dt t ht));generalize cn (fn l t*b) (q^E)/q=y at *;rw[<-z,hb];grind
    rw[sol i hi] at e1;have e2:=lf i hi;refine⟨b'*left i,aT q0 ?_⟩;show q*(zab k fun t=>R i t*(cn (fn l t*b) (q^E)/q-b'*fn l t))=_
    rw[e1,<-e2,hb];grind
   intro x hx;obtain⟨t,ht,e⟩:=á x hx;have:=al t ht;rw[<-e,show b/q=b' by rw[hb,aG _ q0]];exact this
variable {è:List (List Int)}
structure Sc (p:Int)(k:Nat)(R:Int->Int->Int)(ê:Int->Int)(D B:Nat):Prop where
 hp:zak p
 ci:CI p k R
 ex:∃(x:Int->Int)(s:Int),0<s/\¬p∣s/\(∀i:Nat,i<k->(zab k fun t=>R i t*x t)=s*ê i)/\s<=B/\(∀t:Nat,t<k->((x t).natAbs:Int)<=B)/\∀d:Int,d∣s->(∀t:Nat,t<k->d∣x t)->d∣1
 al:∀v:Int->Int,La k R fun i=>D*v i
theorem Ni {a b:Int}(a0:0<=a)(b0:0<=b)(h:a*a<b*b):a<b:=by
 rcases Int.lt_or_le a b with c | c
 .exact c
 .have:=cL c c b0 a0;lia
section
variable {p:Int}{k D B e:Nat}{R:Int->Int->Int}{ê left:Int->Int}{å:List Int}{H b:Int}
theorem Sc.great (HH:p^e<8*(H*H))(H0:1<=H)(gr:128*((B:Int)*B)<=p^e):4*(B:Int)<=H:=by
 have:(4*(B:Int))*(4*B)<H*H:=by
  rw[show (4*(B:Int))*(4*B)=16*(B*B) by grind];lia
 have:=Ni J J this;lia
theorem Sc.none (S:Sc p k R ê D B)(lif:zY k R ê (p^e) (fn å) left)(ll:å.length=k){l1 l2:List Int}(pre:å=l1++l2)(fr:AL (p^e) H l1 b)(Hb:H<=b)(H0:1<=H)(HH:2*(H*H)<=p^e)(H8:p^e<8*(H*H)):p^e<128*((B:Int)*B):=by
 refine jO fun gr=>?_;have p2:=S.hp.1;obtain⟨x,s,s0,ps,hx,sB,xB,_⟩:=S.ex;have big:=Sc.great H8 H0 gr;have le:l1.length<=k:=by rw[<-ll,pre,aI];lia
 obtain⟨b0,bs,_⟩:=fr.done S.hp s0 ps sB big (by have:=Int.mul_nonneg (show 0<=H by lia) (show 0<=H by lia);lia) (x:=fun t=>x t) (fun t ht=>by
  have:=lif.rest J S.ci hx t J;unfold fn at this;rw[ae,pre,sF ht] at this;exact this) (fun t ht=>xB t J)
 have:=aW s0 bs;lia
theorem Sc.not (S:Sc p k R ê D B)(lif:zY k R ê (p^e) (fn å) left)(ll:å.length=k)(fr:AL (p^e) H å b)(H0:1<=H)(HH:2*(H*H)<=p^e)(H8:p^e<8*(H*H))(no:¬∀i:Nat,i<k->(zab k fun t=>R i t*cn (fn å t*b) (p^e))=b*ê i):p^e<128*((B:Int)*B):=by
 refine jO fun gr=>no ?_;have p2:=S.hp.1;obtain⟨x,s,s0,ps,hx,sB,xB,one⟩:=S.ex;have big:=Sc.great H8 H0 gr;have rs:∀t:Nat,t<k->p^e∣s*fn å t-x t:=fun t ht=>lif.rest J S.ci hx t ht;obtain⟨b0,bs,al⟩:=fr.done S.hp s0 ps sB big (by have:=Int.mul_nonneg (show 0<=H by lia) (show 0<=H by lia);lia) (x:=fun t=>x t) (fun t ht=>by
  have:=rs t J;unfold fn at this;rwa [ae] at this) (fun t ht=>xB t J)
 have eb:=Ji s0 b0 bs (fun t ht=>al t J) one;have HB:(B:Int)*B >= B:=by
  have:(1:Int)<=B:=J;have:=aq this (show (0:Int)<=B by lia);lia
 intro i hi;rw[eb,<-hx i hi];refine zad fun t ht=>?_;have c:=Hl (n:=fn å t*s) (m:=p^e) (x:=x t) J (by rw[aC];exact rs t ht) (by have:=xB t ht;lia);show R i t*cn (fn å t*s) (p^e)=R i t*x t
 unfold cn;rw[c]
theorem Sc.bot (S:Sc p k R ê D B)(lif:zY k R ê (p^e) (fn å) left)(ll:å.length=k)(fr:AL (p^e) H å b)(bH:b<H)(H0:1<=H)(HH:2*(H*H)<=p^e)(sol:∀i:Nat,i<k->(zab k fun t=>R i t*cn (fn å t*b) (p^e))=b*ê i):b∣D:=by
 obtain⟨y,hy⟩:=S.al ê;have T7:H<=H*H:=by have:=aq H0 (show 0<=H by lia);lia
 exact(zQ S.hp.1 S.ci (fr.pos J) hy sol (fr.BF S.hp HH H0 S.ci ll bH lif.eq sol)).1
end
theorem Dj {k i:Nat}{x:List Int}(lr:è.length=k)(lw:∀row∈è,row.length=k)(hi:i<k)(lx:x.length=k):dot (è.getD i []) x=zab k fun t=>mt è i t*fn x t:=by
 rw[pE (lw _ (mO J)) lx];refine zad fun t _=>?_;unfold mt fn;rw[ae,ae]
theorem J9 {k:Nat}{R:Int->Int->Int}{ê left r:Int->Int}{sc:Int}{C G:Nat}(s1:1<=sc)(lif:zY k R ê sc r left)(hR:∀i t:Nat,i<k->t<k->(R i t).natAbs<=C)(hg:∀i:Nat,i<k->(ê i).natAbs<=G)(i:Nat)(hi:i<k):(left i).natAbs<=G+k*C:=by
 have e:=lif.eq i hi;have b:=Mx.yo (F:=fun t=>R i t*r t) (B:=C*sc) (k:=k) fun t ht=>by
  have a:=hR i t hi ht;have c:=lif.rg t ht;rw[aR,aP];exact cL J J J J
 have n:sc*(left i).natAbs<=G+k*(C*sc):=by
  have g1:=hg i hi;have:sc*(left i).natAbs=((sc*left i).natAbs:Int):=by rw[aR,aP];congr 1;lia
  rw[this,show sc*left i=ê i-zab k fun t=>R i t*r t by lia];omega
 have q:sc*(left i).natAbs<=sc*(G+k*C:Nat):=by
  have g2:=aq s1 (show (0:Int)<=G by lia);rw[iL,aP,fH];have:sc*((k:Int)*C)=k*(C*sc):=by grind
  lia
 have:=Int.le_of_mul_le_mul_left q J;lia
theorem Jj {m:Int}(hm:1<=m){k:Nat}{us:List (List Int)}{ê:Int->Int}{sc:Int}(hs:1<=sc){å left:List Int}(lr:è.length=k)(lw:∀row∈è,row.length=k)(lu:us.length=k)(lv:∀row∈us,row.length=k)(l1:å.length=k)(l2:left.length=k)
 (ri:RI m k (mt è) (mt us))(h:zY k (mt è) ê sc (fn å) (fn left)){more:List Int}(em:more=us.map fun u=>dot u left%m) :
    zY k (mt è) ê (sc*m) (fn (List.zipWith (fun r y=>r+sc*y) å more)) (fn (List.zipWith (fun row x=>(x-dot row more)/m) è left)):=by
  have lm:more.length=k:=by rw[em,aa,lu]
  have mg:∀t:Nat,t<k->fn more t=(zab k fun j=>mt us t j*fn left j)%m:=fun t ht=>by
    rw[<-Dj lu lv ht l2];unfold fn;rw[ae];exact mU (by rw[em,af,m7 J];rfl)
  have st:=h.step hm ri hs (more:=fn more) (oU:=fn (List.zipWith (fun row x=>(x-dot row more)/m) è left)) mg fun i hi=>by
    rw[<-Dj lr lw hi lm];unfold fn;rw[ae];exact mU (by rw[cm,m7 J,mW J])
  refine⟨fun i hi=>?_,fun t ht=>?_⟩
  · rw[<-st.eq i hi]
    congr 1;refine zad fun t ht=>?_;congr 1;unfold fn;rw[ae,yW J J]
  · have a:=st.rg t ht
    unfold fn at a ⊢;rw[ae] at a ⊢;rw[yW J J];exact a
variable {k n:Nat}{M M':Int->Int->Int}{è:List (List Int)}
def lh (fs:List Fd):List Nat:=fs.map fun f=>f.2.1
def numsOf (fs:List Fd):List Nat:=fs.map fun f=>f.1
def rowsOf (é:List (List Int))(fs:List Fd):List (List Int):=fs.map fun f=>(lh fs).map fun c=>g (é.getD f.1 []) c
theorem vZ.xF {p:Int}(h:vZ p k M)(e:∀s t:Nat,s<k->t<k->M s t=M' s t):vZ p k M':=fun y hy=>h y fun t ht=>by
 have:=hy t ht;rwa [zad (G:=fun s=>y s*M s t) fun s hs=>by rw[e s t hs ht]] at this
theorem La.xF {v:Int->Int}(h:La k M v)(e:∀s t:Nat,s<k->t<k->M s t=M' s t):La k M' v:=by
 obtain⟨x,hx⟩:=h;exact⟨x,fun i hi=>by rw[<-hx i hi];exact zad fun t ht=>by rw[e i t hi ht]⟩
theorem CI.xF {p:Int}(h:CI p k M)(e:∀s t:Nat,s<k->t<k->M s t=M' s t):CI p k M':=fun y hy=>h y fun i hi=>by
 have:=hy i hi;rwa [zad (G:=fun t=>M i t*y t) fun t ht=>by rw[e i t hi ht]] at this
theorem nh {é:List (List Int)}{fs:List Fd}:(rowsOf é fs).length=fs.length/\∀row∈rowsOf é fs,row.length=fs.length:=by
 refine⟨by unfold rowsOf;rw[List.length_map],fun row h=>?_⟩;unfold rowsOf at h;obtain⟨f,_,rfl⟩:=List.mem_map.mp h;rw[aa];unfold lh;rw[List.length_map]
theorem uF {é:List (List Int)}{fs:List Fd}{i j:Nat}(hi:i<fs.length)(hj:j<fs.length):mt (rowsOf é fs) i j=st é (nm fs i) (cl fs j):=by
 rw[uV];have e:(rowsOf é fs)[i]?=some ((lh fs).map fun c=>g (é.getD (fs.getD i (0,0,[])).1 []) c):=by
  unfold rowsOf;rw[af,az hi,getD_at (az hi)];rfl
 rw[tU e];unfold st nm cl;rw[ae];refine mU ?_;unfold lh;rw[af,af,az hj,getD_at (az hj)];rfl
theorem Ar (lr:è.length=k):(yf k è).length=k/\∀row∈yf k è,row.length=k:=by
 refine⟨by unfold yf;rw[List.length_map,List.length_range],fun row h=>?_⟩;unfold yf at h;obtain⟨c,_,rfl⟩:=List.mem_map.mp h;rw[aa,lr]
theorem uW (lr:è.length=k){i j:Nat}(hi:i<k)(hj:j<k):mt (yf k è) i j=mt è j i:=by
 rw[uV,uV];have e:(yf k è)[i]?=some (è.map fun row=>g row i):=by
  unfold yf;rw[af,dH hi];rfl
 rw[tU e];exact mU (by rw[af,m7 J];rfl)
structure yz (p:Int)(w:Nat)(é:List (List Int))(fs:List Fd)(us:List (List Int))(D C:Nat):Prop where
 hp:zak p
 crn:rD p w é é.length fs
 ul:us.length=fs.length
 uw:∀u∈us,u.length=fs.length
 li:LI (p^16) fs.length (mt us) (mt (rowsOf é fs))
 C1:1<=C
 bd:∀(j c:Nat),j<é.length->c<w->(st é j c).natAbs<=C
 D1:1<=D
 Db:D<=(2*(fs.length*C)+1)^fs.length
 al1:∀v:Int->Int,La fs.length (mt (yf fs.length (rowsOf é fs))) fun i=>D*v i
 al2:∀v:Int->Int,La fs.length (mt (rowsOf é fs)) fun i=>D*v i
theorem rD.ind {p:Int}{w:Nat}{é:List (List Int)}{n:Nat}{fs:List Fd}(h:rD p w é n fs)(c:Nat)(hc:c<=fs.length):vZ p c (mt (rowsOf é fs)) :=
 vZ.xF (h.cor.ind c hc) fun s t hs ht=>by rw[uF J J,ae,ae]
theorem rD.sW {p:Int}{w:Nat}{é:List (List Int)}{n:Nat}{fs:List Fd}(h:rD p w é n fs){t:Nat}(ht:t<fs.length):nm fs t<n:=h.fr.sW t ht
theorem zS {p:Int}{w:Nat}{é:List (List Int)}{fs:List Fd}{C:Nat}(h:rD p w é é.length fs)(bd:∀(j c:Nat),j<é.length->c<w->(st é j c).natAbs<=C)(i t:Nat)(hi:i<fs.length)(ht:t<fs.length):(mt (rowsOf é fs) i t).natAbs<=C:=by
 rw[uF hi ht];exact bd _ _ (h.sW hi) (h.cor.colw t ht)
theorem yz.mk' {p:Int}(hp:zak p){w:Nat}{é:List (List Int)}{fs:List Fd}{us:List (List Int)}{C:Nat}(crn:rD p w é é.length fs)(ul:us.length=fs.length)(uw:∀u∈us,u.length=fs.length)(li:LI (p^16) fs.length (mt us) (mt (rowsOf é fs)))(C1:1<=C)
 (bd:∀(j c:Nat),j<é.length->c<w->(st é j c).natAbs<=C):∃D,yz p w é fs us D C:=by
  obtain⟨D,D1,Db,a1,a2⟩:=both hp C1 (crn.ind _ (Nat.le_refl _)) (zS crn bd);exact⟨D,hp,crn,ul,uw,li,C1,bd,D1,Db,fun v=>La.xF (a1 v) fun s t hs ht=>(uW nh.1 hs ht).symm,a2⟩
section
variable {ê:Int->Int}
variable {p:Int}{w:Nat}{é:List (List Int)}{fs:List Fd}{us:List (List Int)}{D C G B:Nat}
theorem yz.ci1 (F:yz p w é fs us D C):CI p fs.length (mt (yf fs.length (rowsOf é fs))):=CI.xF (F.crn.ind _ (aH _)).ci fun s t hs ht=>(uW nh.1 hs ht).symm
theorem Xm (p:Int):p∣p^16:=⟨p^15,by rw[<-Int.pow_succ']⟩
theorem yz.ZZ (F:yz p w é fs us D C):CI p fs.length (mt (rowsOf é fs)):=F.li.ci (Xm p)
theorem yz.ri1 (F:yz p w é fs us D C):RI (p^16) fs.length (mt (yf fs.length (rowsOf é fs))) (mt (yf fs.length us)):=fun i j hi hj=>by
 have a:=F.li j i hj hi;have e:(zab fs.length fun t=>mt (yf fs.length (rowsOf é fs)) i t*mt (yf fs.length us) t j)=zab fs.length fun t=>mt us j t*mt (rowsOf é fs) t i:=zad fun t ht=>by
  rw[uW nh.1 hi ht,uW F.ul ht hj,aC]
 rw[e]
 by_cases c:i=j
 .rw[aB c];rwa [aB c.symm] at a
 .rw[ak c];rwa [ak (fun z=>c z.symm)] at a
theorem yz.ri2 (F:yz p w é fs us D C):RI (p^16) fs.length (mt (rowsOf é fs)) (mt us):=F.li.right (by have:=F.hp.1;lia) (F.crn.ind _ (aH _))
theorem LY {p:Int}(hp:zak p){k:Nat}{R:Int->Int->Int}(ci:CI p k R)(C1:1<=C)(hR:∀i t:Nat,i<k->t<k->(R i t).natAbs<=C)(hg:∀i:Nat,i<k->(ê i).natAbs<=G)(D1:1<=D)(al:∀v:Int->Int,La k R fun i=>D*v i)(DB:D<=B)(big:k*(D*(zaw k C*G))<=B):Sc p k R ê D B:=by
 obtain⟨x,s,s0,ps,hx,sd,xb,one⟩:=Vs hp C1 ci hR hg D1 al;refine⟨hp,ci,⟨x,s,s0,ps,hx,?_,fun t ht=>?_,one⟩,al⟩
 .have:=aW J sd;lia
 .have:=xb t ht;lia
theorem yz.sc1 (F:yz p w é fs us D C)(hg:∀i:Nat,i<fs.length->(ê i).natAbs<=G)(DB:D<=B)(big:fs.length*(D*(zaw fs.length C*G))<=B):Sc p fs.length (mt (yf fs.length (rowsOf é fs))) ê D B :=
 LY F.hp F.ci1 F.C1 (fun i t hi ht=>by rw[uW nh.1 hi ht];exact zS F.crn F.bd t i ht hi) hg F.D1 F.al1 DB big
theorem yz.sc2 (F:yz p w é fs us D C)(hg:∀i:Nat,i<fs.length->(ê i).natAbs<=G)(DB:D<=B)(big:fs.length*(D*(zaw fs.length C*G))<=B):Sc p fs.length (mt (rowsOf é fs)) ê D B :=
 LY F.hp F.ZZ F.C1 (zS F.crn F.bd) hg F.D1 F.al2 DB big
end
theorem rD.Et {p:Int}(hp:zak p){w:Nat}{é:List (List Int)}{fs:List Fd}(h:rD p w é n fs):(lh fs).Nodup:=by
 unfold lh;refine de.mpr fun i j hi hj lt e=>?_;rw[aa] at hi hj;rw[jP,jP] at e;have ci:cl fs i=fs[i].2.1:=by unfold cl;rw[getD_at (List.getElem?_eq_getElem hi)]
 have cj:cl fs j=fs[j].2.1:=by unfold cl;rw[getD_at (List.getElem?_eq_getElem hj)]
 have z:=h.cor.zero i j lt hj;have o:=h.cor.one j hj;rw[ci,e,<-cj] at z;have:=bp z o;rw[show ∀a:Int,a-(a-1)=1 from fun a=>by lia] at this;have:=aW O this;have:=hp.1;lia
theorem rD.EG {p:Int}{w:Nat}{é:List (List Int)}{fs:List Fd}(h:rD p w é n fs):(numsOf fs).Nodup:=by
 unfold numsOf;exact List.Pairwise.map _ (fun a b (e:a.1<b.1)=>cy e) h.srt
theorem Ak {fs:List Fd}{t:Nat}(ht:t<fs.length):(lh fs)[t]?=some (cl fs t):=by
 unfold lh cl;rw[af,az ht,ao,az ht];rfl
theorem ER {fs:List Fd}{t:Nat}(ht:t<fs.length):(numsOf fs)[t]?=some (nm fs t):=by
 unfold numsOf nm;rw[af,az ht,ao,az ht];rfl
theorem oJ {p:Int}{w:Nat}{é:List (List Int)}{fs:List Fd}(h:rD p w é n fs):∀c∈lh fs,c<w:=fun c hc=>by
 unfold lh at hc;obtain⟨f,hf,rfl⟩:=List.mem_map.mp hc;exact(h.rok f hf).2.2
theorem wB {p:Int}{w:Nat}{é:List (List Int)}{fs:List Fd}(h:rD p w é n fs):∀c∈numsOf fs,c<n:=fun c hc=>by
 unfold numsOf at hc;obtain⟨f,hf,rfl⟩:=List.mem_map.mp hc;exact h.lt f hf
variable {row:Nat->Int->Int}
open Lt
def tj (è:List (List Int)):Nat->Int->Int:=fun j i=>g (è.getD j []) i.toNat
theorem Rec.xF {m:Int}{k r:Nat}{G G':Int->Int}{v:List Int}(h:Rec m k r row G v)(e:∀i:Nat,i<k->m∣G i-G' i):Rec m k r row G' v:=fun i hi=>by
 have:=bT (h i hi) (e i hi);rwa [show ∀a b c d:Int,a-(b+c)+(b-d)=a-(d+c) from fun a b c d=>by lia] at this
theorem Ent.rec {m:Int}{K k r:Nat}(hK:k+r<=K):∀{c:Nat}{ls:List (List Int)}{left:List Int}{ls':List (List Int)},Ent m c ls left ls'->(∀l∈ls,l.length=K)->left.length=K->(∀l∈ls,Rec m k r row (fun _=>0) l)->Rec m k r row (fun _=>0) left->∀l∈ls',Rec m k r row (fun _=>0) l:=by
 intro c ls left ls' h
 induction h with
 | nil=>intro _ _ _ _ l hl;cases hl
 | @skip c l left ls ls' z _ ih =>
  intro ll lf rl rf x hx;rcases List.mem_cons.mp hx with e | e
  .rw[e];exact rl l av
  .exact ih (fun y hy=>ll y (ar _ hy)) lf (fun y hy=>rl y (ar _ hy)) rf x e
 | @mix c l left ls ls' α β G nz G1 d1 d2 e _ ih =>
  intro ll lf rl rf x hx;have l1:=ll l av;have r1:=rl l av;rcases List.mem_cons.mp hx with e' | e'
  .rw[e'];exact Rec.xF (Rec.mix l1 lf r1 rf α β) fun i _=>by rw[bw,bw];exact bq _
  .refine ih (fun y hy=>ll y (ar _ hy)) (uf lf l1 ..) (fun y hy=>rl y (ar _ hy)) ?_ x e';exact Rec.xF (Rec.mix lf l1 rf r1 _ _) fun i _=>by rw[bw,bw];exact bq _
def Up (m:Int)(l:List Int):Prop:=∀x∈l,0<=x/\x<=m
theorem Oh {m:Int}(m0:0<m)(one:List Int)(a:Int)(other:List Int)(b:Int):In m (mix one a other b m):=In.zip m0 one other fun x y=>x*a+y*b
theorem In.up {m:Int}{l:List Int}(h:In m l):Up m l:=fun x hx=>⟨(h x hx).1,io (h x hx).2⟩
theorem Ent.up {m:Int}(m0:0<m):∀{c:Nat}{ls:List (List Int)}{left:List Int}{ls':List (List Int)},Ent m c ls left ls'->(∀l∈ls,Up m l)->∀l∈ls',Up m l:=by
 intro c ls left ls' h
 induction h with
 | nil=>intro _ l hl;cases hl
 | @skip c l left ls ls' z _ ih =>
  intro ll x hx;rcases List.mem_cons.mp hx with e | e
  .rw[e];exact ll l av
  .exact ih (fun y hy=>ll y (ar _ hy)) x e
 | @mix c l left ls ls' α β G nz G1 d1 d2 e _ ih =>
  intro ll x hx;rcases List.mem_cons.mp hx with e' | e'
  .rw[e'];exact In.up (Oh m0 l α left β)
  .exact ih (fun y hy=>ll y (ar _ hy)) x e'
structure KM (m:Int)(k r:Nat)(è:List (List Int))(j:Nat)(ls:List (List Int)):Prop where
 Dm:CA m (k+r) 0 ls
 len:ls.length=k
 how:Lh m k 0 ls
 kill:∀a:Int->Int,Fo m k a ls->∀i,i<j->m∣dt k (è.getD i []) a
 rc:∀l∈ls,Rec m k r (tj è) (fun _=>0) l
 up:∀l∈ls,Up m l
def Mg (m:Int)(k r:Nat):List (List Int):=(List.range k).map fun c=>uI (k+r) c m
theorem Hr {m:Int}{K:Nat}:∀{c:Nat}{ls:List (List Int)},(∀(i:Nat)(l:List Int),ls[i]?=some l->l.length=K/\(∀j,j<c+i->g l j=0)/\1<=g l (c+i)/\g l (c+i)∣m)->CA m K c ls
 | _,[],_=>trivial
 | c,l::ls,h=>⟨h 0 l Z,Hr (c:=c+1) fun i x e=>by
   have:=h (i+1) x (by rw[dS];exact e);rwa [show c+(i+1)=c+1+i by lia] at this⟩
theorem GP {m:Int}{k:Nat}:∀{c:Nat}{ls:List (List Int)},(∀(i:Nat)(l:List Int),ls[i]?=some l->∀a:Int->Int,m∣m/g l (c+i)*dt k l a)->Lh m k c ls
 | _,[],_=>trivial
 | c,l::ls,h=>⟨fun a _=>h 0 l Z a,GP (c:=c+1) fun i x e=>by
   have:=h (i+1) x (by rw[dS];exact e);rwa [show c+(i+1)=c+1+i by lia] at this⟩
theorem KM.start {m:Int}(m1:1<=m)(k r:Nat)(è:List (List Int)):KM m k r è 0 (Mg m k r):=by
 have at_:∀(i:Nat)(l:List Int),(Mg m k r)[i]?=some l->i<k/\l=uI (k+r) i m:=fun i l h=>by
  unfold Mg at h;rw[af] at h;rcases Nat.lt_or_ge i k with c | c
  .rw[dH c] at h;exact⟨c,(bL h).symm⟩
  .rw[cG (by rw[gO];exact c)] at h;cases h
 have mem:∀l∈Mg m k r,∃i,i<k/\l=uI (k+r) i m:=fun l hl=>by
  obtain⟨i,hi⟩:=List.getElem?_of_mem hl;exact⟨i,at_ i l hi⟩
 refine⟨Hr fun i l h=>?_,by unfold Mg;rw[List.length_map,List.length_range],GP fun i l h a=>?_,fun _ _ i hi=>absurd hi (Nat.not_lt_zero _),fun l hl i hi=>?_,fun l hl x hx=>?_⟩
 .obtain⟨ik,rfl⟩:=at_ i l h;refine⟨pO ..,fun j hj=>by rw[p4 J,ak J],?_,?_⟩
  .rw[p4 J,aB J];exact m1
  .rw[p4 J,aB J];exact c7 _
 .obtain⟨ik,rfl⟩:=at_ i l h;rw[p4 J,aB J,Int.ediv_self J,cY];unfold dt;refine Mx.vA fun t _=>?_;rw[ae,p4 J];split
  .exact dh ..
  .rw[bn];exact bq _
 .obtain⟨c,hc,rfl⟩:=mem l hl;rw[p4 J];have z:(zab r fun j=>g (uI (k+r) c m) (k+j.toNat)*tj è j.toNat i)=0:=by
   rw[zad (G:=fun _=>0) fun j _=>by rw[p4 J,ak J,bn],zbj]
  rw[z,dF,dC];split
  .exact c7 _
  .exact bq _
 .obtain⟨c,hc,rfl⟩:=mem l hl;obtain⟨j,hj,rfl⟩:=tK hx;rw[p4 J];split<;>lia
theorem KM.enter {m:Int}(m1:1<=m){k r:Nat}{è:List (List Int)}(lr:è.length=r)(lw:∀row∈è,row.length=k){j:Nat}(hj:j<r){ls ls':List (List Int)}(h:KM m k r è j ls)(e:Ent m 0 ls ((è.getD j []++uI r j 1).map fun x=>x%m) ls'):KM m k r è (j+1) ls':=by
 have lj:(è.getD j []).length=k:=lw _ (mO J);obtain⟨left,hl⟩:∃left:List Int,left=(è.getD j []++uI r j 1).map fun x=>x%m:=⟨_,Z⟩;rw[<-hl] at e;have ll:left.length=k+r:=by rw[hl,aa,aI,lj,pO]
 have la:(è.getD j []++uI r j 1).length=k+r:=by rw[aI,lj,pO]
 have gl:∀i,i<k+r->g left i=g (è.getD j []++uI r j 1) i%m:=fun i hi=>by rw[hl];exact rY (by rw[la];exact hi)
 have lf:Lf m (k+r) 0 left:=⟨ll,fun i hi=>absurd hi (bx _),fun i=>by
  have:In m left:=by rw[hl];exact In.mod J _ fun x=>x
  exact this.g J i⟩
 have t:=e.Dm m1 h.Dm lf;have YL:∀l∈ls,l.length=k+r:=fun l hl=>by
  obtain⟨i,hi⟩:=List.getElem?_of_mem hl;exact(h.Dm.at hi).1
 refine⟨t.1,by rw[t.2,h.len],e.how m1 h.Dm lf (by rw[h.len,dY]) h.how,fun a ka i hi=>?_,Ent.rec (aH _) e YL ll h.rc ?_,Ent.up J e h.up⟩
 .have kk:=e.kill m1 a h.Dm lf (by rw[h.len,dY]) ka;rcases Nat.lt_succ_iff_lt_or_eq.mp hi with q | q
  .exact h.kill a kk.1 i q
  .rw[q];refine(oK ?_).mp kk.2;unfold dt;refine oC fun t ht=>?_;rw[ae,gl t J,sF J,<-cT];exact aD (mK _ _)
 .intro i hi;have a:m∣g left i-tj è j i:=by
   unfold tj;rw[ae,gl i J,sF J];exact mK _ _
  have b:m∣(zab r fun j'=>g left (k+j'.toNat)*tj è j'.toNat i)-zab r fun j'=>tj è j'.toNat i*if j'=(j:Int) then 1 else 0:=oC fun t ht=>by
   rw[ae,gl (k+t) J,wX lj,p4 hj]
   by_cases c:t=j
   .rw[aB c,aB J];have:=aD (c:=tj è t i) (mK 1 m);rw[cT,cY] at this;rwa [b3]
   .rw[ak c,ak J,eO,bn,bw];exact bq _
  rw[Mx.mY (F:=fun j'=>tj è j'.toNat i) hj,ae] at b;have:=bp a b;rwa [show ∀x y z:Int,x-y-(z-y)=x-(0+z) from fun x y z=>by lia] at this
structure Gl (m:Int)(k r:Nat)(è:List (List Int))(ê:List Int)(ls:List (List Int))(c:Nat)(left:List Int):Prop where
 len:left.length=k+r
 zero:∀i,i<c->g left i=0
 rc:Rec m k r (tj è) (fn ê) left
 dd:∀a:Int->Int,Fo m k a ls->m∣dt k left a-dt k ê a
theorem Gl.start {m:Int}{k r:Nat}{è:List (List Int)}{ê:List Int}(lg:ê.length=k)(ls:List (List Int)):Gl m k r è ê ls 0 (ê++List.replicate r 0):=by
 refine⟨by rw[aI,lg,aQ],fun i hi=>absurd hi (bx _),fun i hi=>?_,fun a _=>?_⟩
 .have z:(zab r fun j=>g (ê++List.replicate r 0) (k+j.toNat)*tj è j.toNat i)=0:=by
   rw[zad (G:=fun _=>0) fun j hj=>by rw[ae,wX lg,BX hj,bn],zbj]
  rw[z];unfold fn;rw[ae,sF J,dF,cC];exact bq _
 .have:dt k (ê++List.replicate r 0) a=dt k ê a:=zad fun i hi=>by rw[ae,sF J]
  rw[this,cC];exact bq _
theorem Gl.step {m:Int}(m1:1<=m){k r:Nat}{è:List (List Int)}{ê:List Int}{j:Nat}{ls:List (List Int)}(L:KM m k r è j ls){c:Nat}{left:List Int}(h:Gl m k r è ê ls c left){l:List Int}(hl:ls[c]?=some l)(dv:g l c∣g left c):Gl m k r è ê ls (c+1) (uc left (g left c/g l c) l m):=by
 have t:=L.Dm.at hl;rw[dY] at t;have ck:c<k:=by rw[<-L.len];exact(aF.mp hl).1
 have el:left.length=l.length:=by rw[h.len,t.1]
 have gd:∀i,i<k+r->m∣g (uc left (g left c/g l c) l m) i-(g left i-g left c/g l c*g l i):=fun i hi=>ED el (by rw[h.len];exact hi);have ex:g left c/g l c*g l c=g left c:=gA dv;refine⟨by rw[Ag el,h.len],fun i hi=>?_,fun i hi=>?_,fun a ka=>?_⟩
 .have zz:g left i-g left c/g l c*g l i=0:=by
   rcases Nat.lt_succ_iff_lt_or_eq.mp hi with q | q
   .rw[h.zero i q,t.2.1 i kg,bw];rfl
   .rw[q,ex,cC]
  unfold uc
  by_cases z:g left c/g l c=0
  .rw[aB z];rw[z,bn,dC] at zz;exact zz
  .rw[ak z,yW (by rw[h.len];lia) (by rw[t.1];lia),zz,eO]
 .have r1:=h.rc i hi;have r2:=L.rc l (ah hl) i hi;obtain⟨q,hq⟩:∃q,q=g left c/g l c:=⟨_,Z⟩;rw[<-hq] at gd ⊢;have s1:m∣(zab r fun j=>g (uc left q l m) (k+j.toNat)*tj è j.toNat i)-zab r fun j=>(g left (k+j.toNat)-q*g l (k+j.toNat))*tj è j.toNat i:=oC fun t ht=>by
   rw[ae,<-cT];exact aD (gd (k+t) J)
  have s2:(zab r fun j=>(g left (k+j.toNat)-q*g l (k+j.toNat))*tj è j.toNat i)=(zab r fun j=>g left (k+j.toNat)*tj è j.toNat i) + -q*zab r fun j=>g l (k+j.toNat)*tj è j.toNat i:=by
   rw[<-zaj,<-zax];exact zad fun j _=>by grind
  rw[s2] at s1;have a:=gd i J;have b:=ax (b:=q) r2;have:=bp (bp (bT a r1) b) s1;generalize (zab r fun j=>g (uc left q l m) (k+j.toNat)*tj è j.toNat i)=X at *;generalize (zab r fun j=>g left (k+j.toNat)*tj è j.toNat i)=Y at *;generalize (zab r fun j=>g l (k+j.toNat)*tj è j.toNat i)=ziR at *;rwa [show g (uc left q l m) i-(g left i-q*g l i)+(g left i-(fn ê i+Y))-q*(g l i-(0+ziR))-(X-(Y + -q*ziR))=g (uc left q l m) i-(fn ê i+X) by grind] at this
 .obtain⟨q,hq⟩:∃q,q=g left c/g l c:=⟨_,Z⟩;rw[<-hq] at gd ⊢;have s1:m∣dt k (uc left q l m) a-(dt k left a-q*dt k l a):=by
   have e:dt k left a-q*dt k l a=zab k fun i=>(g left i.toNat-q*g l i.toNat)*a i:=by
    have:(zab k fun i=>(g left i.toNat-q*g l i.toNat)*a i)=dt k left a + -q*dt k l a:=by
     unfold zde;rw[<-zaj,<-zax];exact zad fun i _=>by grind
    rw[this];grind
   rw[e];unfold zde;refine oC fun i hi=>?_;rw[ae,<-cT];exact aD (gd i J)
  have b:=ax (b:=q) (ka l (ah hl));have:=bp (bT s1 (h.dd a ka)) b;rwa [show ∀x y z u:Int,x-(y-z)+(y-u)-z=x-u from fun x y z u=>by lia] at this
theorem Gl.end {m:Int}(m1:1<=m){k r:Nat}{è:List (List Int)}{ê:List Int}{ls:List (List Int)}{left:List Int}(h:Gl m k r è ê ls k left){tk:Nat->Int}(ht:∀j,j<r->m∣tk j+g left (k+j))(i:Nat)(hi:i<k):m∣g ê i-zab r fun j=>tk j.toNat*tj è j.toNat i:=by
 have a:=h.rc i hi;rw[h.zero i hi] at a;have b:m∣(zab r fun j=>tk j.toNat*tj è j.toNat i)-zab r fun j=>-(g left (k+j.toNat))*tj è j.toNat i:=oC fun j hj=>by
  rw[ae,<-cT,Int.sub_neg];exact aD (ht j hj)
 have c:(zab r fun j=>-(g left (k+j.toNat))*tj è j.toNat i)=-1*zab r fun j=>g left (k+j.toNat)*tj è j.toNat i:=by
  rw[<-zaj];exact zad fun j _=>by grind
 rw[c] at b;have d:=eM.mpr a;have:=bp d b;unfold fn at this;rw[ae] at this;rwa [show ∀x y z:Int,-(0-(x+y))-(z - -1*y)=x-z from fun x y z=>by lia] at this
theorem Fp.xF {m:Int}{k col:Nat}{ls:List (List Int)}{j:Nat}{a a':Int->Int}(h:Fp m k col ls j a)(e:∀i:Nat,a i=a' i):Fp m k col ls j a':=by
 refine⟨fun i hi=>by rw[<-e];exact h.lo i hi,fun i hi=>by rw[<-e];exact h.hi i hi,fun l hl=>by rw[<-e];exact h.at_ l hl,fun i l hi hl=>?_⟩;have:=h.kl i l hi hl;rwa [show dt k l a=dt k l a' from zad fun t _=>by rw[e]] at this
theorem wu {F:Int->Int}:∀(a b:Nat),zab (a+b) F=zab a F+zab b fun i=>F (a+i)
 | a,0=>by show zab a F=zab a F+0;lia
 | a,b+1=>by
  show zab (a+b) F+F ((a+b:Nat):Int)=zab a F+((zab b fun i=>F (a+i))+F (a+b))
  rw[wu a b,iL];lia
theorem KA {l am:List Int}{k lo hi:Nat}(ll:k<=l.length)(la:am.length=k)(h1:lo<=hi)(h2:hi<=k)(z1:∀i,i<lo->g am i=0)(z2:∀i,hi<=i->g am i=0) :
  dot ((l.take hi).drop lo) ((am.take hi).drop lo)=dt k l (fn am):=by
 have gt:∀(x:List Int)(i:Nat),i<hi-lo->g ((x.take hi).drop lo) i=g x (lo+i):=fun x i hx=>by
  rw[CU];unfold g;rw[ao,ao,iS J]
 rw[pE (n:=hi-lo) (by rw[cI,cO];lia) (by rw[cI,cO];lia)];have e1:dt k l (fn am)=zab hi fun i=>g l i.toNat*fn am i:=by
  unfold dt;exact Mx.HU h2 fun t ht _=>by unfold fn;rw[Int.toNat_natCast,z2 t ht,Int.mul_zero]
 rw[e1,show hi=lo+(hi-lo) by lia,wu lo (hi-lo)];have e2:(zab lo fun i=>g l i.toNat*fn am i)=0:=by
  rw[zad (G:=fun _=>0) fun i OK=>by unfold fn;rw[Int.toNat_natCast,z1 i OK,Int.mul_zero],zbj]
 rw[e2,dO,show lo+(hi-lo)=hi by lia];refine zad fun i OK=>?_;unfold fn;rw[ae,gt l i OK,gt am i OK,show ((lo:Int)+(i:Int)).toNat=lo+i by lia]
theorem Oc {a b G:Int}(a1:1<=a)(b1:1<=b)(hG:G=(Int.gcd a b:Nat)):1<=G/\G<=a/\1<=a/G*b/\a∣a/G*b/\b∣a/G*b/\∀D:Int,a∣D->b∣D->a/G*b∣D:=by
 have g0:0<Int.gcd a b:=Int.gcd_pos_of_ne_zero_left _ J;have G1:1<=G:=J;obtain⟨a',ha⟩:G∣a:=by rw[hG];exact Int.gcd_dvd_left ..
 obtain⟨b',hb⟩:G∣b:=by rw[hG];exact Int.gcd_dvd_right ..
 have BF:Int.gcd a' b'=1:=by
  have h:Int.gcd a b=Int.gcd a b*Int.gcd a' b':=by
   have:=iA G a' b';rw[<-ha,<-hb,hG,cD] at this;exact this
  have:Int.gcd a b*1=Int.gcd a b*Int.gcd a' b':=by rw[iD];exact h
  exact(gK g0 this).symm
 have G0:G≠0:=J;have e:a/G=a':=by rw[ha,aG _ G0]
 have a'1:1<=a':=by
  rcases Int.lt_or_le 0 a' with c | c
  .exact c
  .have:=ay c (show 0<=G by lia);lia
 refine⟨G1,?_,?_,?_,?_,fun D dA dB=>?_⟩
 .have:=ay a'1 (show 0<=G by lia);lia
 .rw[e];have:=aq a'1 (show 0<=b by lia);lia
 .rw[e];exact⟨b',by rw[ha,hb];grind⟩
 .rw[e];exact⟨a',aC ..⟩
 .rw[e];obtain⟨x,hx⟩:=dA;obtain⟨y,hy⟩:=dB;have h1:a'*x=b'*y:=aT G0 (by rw[<-aK,<-aK,<-ha,<-hb,<-hx,<-hy]);have d:b'∣a'*x:=⟨y,h1⟩;have d':=bi.mpr d;rw[aR] at d';have d2:b'∣x:=bi.mp (eQ (by rw[Nat.coprime_comm];exact BF) d');obtain⟨z,hz⟩:=d2;exact⟨z,by rw[hx,hz,ha,hb];grind⟩
theorem Wd {one other r0 c0 c1:Int}(h:zdf one other r0 0 c0 c1)(o1:1<=one):(r0-c0*other)/one*one+c0*other=r0:=by
 obtain⟨m0,m1,e0,e1,d⟩:=h.m;have:r0-c0*other=m0*one:=J;rw[this,ig _ J];lia
variable {k:Nat}{U:Nat->Nat->Int}{M:Int}
theorem D4 {p:Int}(hp:zak p){w n:Nat}{é:List (List Int)}{fs:List Fd}(h:rD p w é n fs){v x:List Int}(lv:v.length=w)(lx:x.length=fs.length):dot v (u9 w (lh fs) x)=zab fs.length fun t=>fn v (cl fs t.toNat)*fn x t:=by
 rw[pE lv (o6 ..)];have:=Mj (n:=w) (F:=fn v) (ps:=lh fs) (xs:=x) (k:=fs.length) (by unfold lh;rw[List.length_map]) lx (h.Et hp) (oJ h);unfold fn at this ⊢;rw[this];refine zad fun t ht=>?_;have e:(lh fs).getD (t:Int).toNat 0=cl fs (t:Int).toNat:=by
  rw[ae,ao,Ak ht];rfl
 rw[e]
theorem Ov {x am T v:Int->Int}{s:Int}(hs:∀i:Nat,i<k->(zab k fun t=>U i t.toNat*x t)=s*am i)(hT:∀t:Nat,t<k->(zab k fun i=>U i.toNat t*T i)=M*v t) :
  M*(zab k fun t=>v t*x t)=s*zab k fun i=>T i*am i:=by
 rw[<-zaj,<-zaj];have e1:(zab k fun t=>M*(v t*x t))=zab k fun t=>zab k fun i=>U i.toNat t.toNat*T i*x t:=zad fun t ht=>by
  rw[zcg,ae,hT t ht];grind
 rw[e1,zbf];refine zad fun i hi=>?_;have:(zab k fun t=>U (i:Int).toNat t.toNat*T i*x t)=T i*zab k fun t=>U i t.toNat*x t:=by
  rw[<-zaj];refine zad fun t _=>?_;rw[ae];grind
 rw[this,hs i hi];grind
theorem KW {s A B:Int}(s1:1<=s)(M1:1<=M)(e:M*A=s*B):s∣A↔M∣B:=by
 constructor
 .rintro⟨y,hy⟩;refine⟨y,aT (show s≠0 by lia) ?_⟩;rw[<-e,hy];grind
 .rintro⟨y,hy⟩;refine⟨y,aT (show M≠0 by lia) ?_⟩;rw[e,hy];grind
theorem Ki {s:Int}{v W:List Int}{w:Nat}(lv:v.length=w)(lW:W.length=w):s∣dot v (W.map fun x=>x%s)-dot v W:=by
 rw[pE lv (by rw[aa,lW]),pE lv lW];refine oC fun i hi=>?_;rw[ae,rY J,<-cS];exact ax (mK _ _)
def wh (á:List Int)(q:Int):List Int:=á.map fun x=>x*q
theorem Au (á:List Int)(q:Int):(wh á q).length=á.length:=by unfold wh;rw[List.length_map]
theorem EH {á:List Int}{b v:Int}{t:Nat}(lt:á.length=k)(b1:1<=b)(bM:b∣M)(h:(zab k fun i=>U i.toNat t*fn á i)=b*v):(zab k fun i=>U i.toNat t*fn (wh á (M/b)) i)=M*v:=by
 have e:(zab k fun i=>U i.toNat t*fn (wh á (M/b)) i)=M/b*zab k fun i=>U i.toNat t*fn á i:=by
  rw[<-zaj];refine zad fun i hi=>?_;unfold fn wh;rw[ae,rY J];grind
 rw[e,h,<-aK,gA bM]
theorem N6 {r:Nat}{gv:Int}{t:Nat}{goalw:Int->Int}{R:Nat->Int->Int}{sv:Nat->Int}{tk sp:Int->Int}(M1:1<=M)(hg:(zab k fun i=>U i.toNat t*goalw i)=M*gv)(hR:∀j:Nat,j<r->(zab k fun i=>U i.toNat t*R j i)=M*sv j)
 (hsp:∀i:Nat,i<k->M*sp i=goalw i-zab r fun j=>tk j*R j.toNat i):(zab r fun j=>tk j*sv j.toNat)+(zab k fun i=>sp i*U i.toNat t)=gv:=by
  refine aT (show M≠0 by lia) ?_;rw[fH,<-hg,<-zaj,<-zaj];have e1:(zab k fun i=>M*(sp i*U i.toNat t))=(zab k fun i=>U i.toNat t*goalw i) + -1*zab k fun i=>zab r fun j=>tk j*(U i.toNat t*R j.toNat i):=by
    rw[<-zaj,<-zax];refine zad fun i hi=>?_;have a:=hsp i hi;have b:(zab r fun j=>tk j*(U (i:Int).toNat t*R j.toNat i))=U (i:Int).toNat t*zab r fun j=>tk j*R j.toNat i:=by
      rw[<-zaj];exact zad fun j _=>by grind
    rw[b,show M*(sp i*U (i:Int).toNat t)=M*sp i*U (i:Int).toNat t by grind,a];grind
  have e2:(zab k fun i=>zab r fun j=>tk j*(U i.toNat t*R j.toNat i))=zab r fun j=>M*(tk j*sv j.toNat):=by
    rw[zbf];refine zad fun j hj=>?_;rw[zaj,ae,hR j hj];grind
  rw[e1,e2];lia
theorem Rj {n r:Nat}{F:Int->Int}{os cs:List Nat}{tk sp:List Int}(lo:os.length=r)(lc:cs.length=k)(lt:tk.length=r)(ls:sp.length=k)(nd:(os++cs).Nodup)(hl:∀p∈os++cs,p<n) :
  (zab n fun j=>F j*g (u9 n (os++cs) (tk++sp)) j.toNat)=(zab r fun j=>F (os.getD j.toNat 0)*g tk j.toNat)+zab k fun i=>F (cs.getD i.toNat 0)*g sp i.toNat:=by
 rw[Mj (k:=r+k) (by rw[aI,lo,lc]) (by rw[aI,lt,ls]) nd hl,wu r k];congr 1
 .refine zad fun j hj=>?_;rw[ae,sF J,ao,ao,dI J]
 .refine zad fun i hi=>?_;rw[show ((r:Int)+(i:Int)).toNat=r+i by lia,wX lt,ae,ao,ao,dD J,show r+i-os.length=i by lia]
theorem BG:∀(l:List Int)(ps:List Nat)(xs:List Int)(x:Int),x∈tX l ps xs->x∈l\/x∈xs
 | l,[],_,x,h=>by rw[tX] at h;exact .inl h
 | l,_::_,[],x,h=>.inl h
 | l,p::ps,y::xs,x,h=>by
  rcases BG (l.set p y) ps xs x h with c | c
  .rcases List.mem_or_eq_of_mem_set c with d | d
   .exact .inl d
   .exact .inr (d▸av)
  .exact .inr (ar _ c)
theorem EF {n:Nat}{ps:List Nat}{xs:List Int}{x:Int}(h:x∈u9 n ps xs):x=0\/x∈xs:=by
 rcases BG _ _ _ _ h with c | c
 .exact .inl (e8.mp c).2
 .exact .inr c
theorem Na (n m:Int):m∣cn n m-n:=by
 have a:=mK n m;unfold cn;split
 .exact a
 .have:=bp a (c7 m);rwa [show n%m-n-m=n%m-m-n by lia] at this
theorem Q8 {n m:Int}(m0:0<m):(cn n m).natAbs<=m.natAbs:=by
 have a:=aE n (show m≠0 by lia);have b:=aA n m0;unfold cn;split<;>omega
theorem sum_cons {r:Nat}{gw:List Int}{è:List (List Int)}{tk:List Int}(lt:tk.length=r){c:Nat}:(zab (r+1) fun j=>g (1::tk.map fun x=>-x) j.toNat*g ((gw::è).getD j.toNat []) c)=g gw c-zab r fun j=>fn tk j*tj è j.toNat c:=by
 rw[Nat.add_comm,wu 1 r];have e0:(zab 1 fun j=>g (1::tk.map fun x=>-x) j.toNat*g ((gw::è).getD j.toNat []) c)=g gw c:=by
  show 0+g (1::tk.map fun x=>-x) ((0:Nat):Int).toNat*g ((gw::è).getD ((0:Nat):Int).toNat []) c=_
  rw[ae];show 0+1*g gw c=_
  lia
 rw[e0];have e1:(zab r fun i=>g (1::tk.map fun x=>-x) (((1:Nat):Int)+i).toNat*g ((gw::è).getD (((1:Nat):Int)+i).toNat []) c)=-1*zab r fun j=>fn tk j*tj è j.toNat c:=by
  rw[<-zaj];refine zad fun j hj=>?_;rw[show (((1:Nat):Int)+(j:Int)).toNat=j+1 by lia];have a:g (1::tk.map fun x=>-x) (j+1)=-(g tk j):=by
   refine mU ?_;rw[dS,af,mW J];rfl
  have b:(gw::è).getD (j+1) []=è.getD j []:=by rw[ao,dS,<-ao]
  rw[a,b];unfold fn tj;rw[ae,ae];grind
 rw[e1];lia
structure JJ (é:List (List Int))(fs:List Fd)(D N:Nat)(v:Int->Int)(á:List Int)(b:Int):Prop where
 len:á.length=fs.length
 b1:1<=b
 bD:b∣(D:Int)
 bN:b<2^N
 bd:∀x∈á,x.natAbs<2^N
 eq:∀i:Nat,i<fs.length->(zab fs.length fun t=>st é (nm fs t.toNat) (cl fs i)*fn á t)=b*v (cl fs i)
variable {p:Int}{w:Nat}{é:List (List Int)}{fs:List Fd}{ê W:List Int}
theorem HE {l:List Nat}{n:Nat}(nd:l.Nodup)(h:∀x∈l,x<n):l.length<=n:=by
 refine fO fun lt=>?_;obtain⟨i,j,ij,jl,e⟩:=Pg.xJ (fun i=>l.getD i 0%(n+1)%(n+1)) (M:=n) (N:=l.length) lt (fun i hi=>by
  rw[ao,az hi];have:=h _ (cx hi);show (l[i]%(n+1))%(n+1)<n
  rw[js,iB J];exact this)
 have il:i<l.length:=J;have a:=h _ (cx il);have b:=h _ (cx jl);rw[ao,az il,ao,az jl] at e;have e':l[i]%(n+1)%(n+1)=l[j]%(n+1)%(n+1):=e;rw[js,js,iB J,iB J] at e';exact de.mp nd i j il jl ij e'
theorem Hg.sum {w:Nat}{ã:Nat->Int->Int}{k:Nat}{num:Nat->Nat}{a:Nat->Int}{v:Nat->Int->Int}:∀{n:Nat},(∀j,j<n->Hg w ã k num (v j))->Hg w ã k num fun c=>zab n fun j=>a j.toNat*v j.toNat c
 | 0,_=>Hg.zero
 | n+1,h=>by
  have:=Hg.add (Hg.sum (a:=a) (n:=n) fun j hj=>h j (bK hj)) (h n (bO n)) 1 (a n);have e:(fun c=>zab (n+1) fun j=>a j.toNat*v j.toNat c)=fun c=>1*(zab n fun j=>a j.toNat*v j.toNat c)+a n*v n c:=by
   funext c;show (zab n fun j=>a j.toNat*v j.toNat c)+a (n:Int).toNat*v (n:Int).toNat c=_
   rw[ae,cY]
  rw[e];exact this
def JK (é:List (List Int))(ê W:List Int)(s:Int):Prop:=(∀j,j<é.length->s∣dot (é.getD j []) W)/\¬s∣dot ê W
def KQ (w:Nat)(é:List (List Int))(ê mv:List Int):Prop:=∀c:Nat,c<w->(zab é.length fun j=>g mv j.toNat*g (é.getD j.toNat []) c)=g ê c
theorem FS (hp:zak p)(h:rD p w é é.length fs){mv:List Int}(gd:Good p w é.length (st é) (fn ê))(hm:Hm p w (st é) fs.length (nm fs) (fn ê))
 (eq:∀i:Nat,i<fs.length->(zab é.length fun j=>st é j.toNat (cl fs i)*g mv j.toNat)=g ê (cl fs i)):KQ w é ê mv:=by
  obtain⟨g1,g2⟩:=gd _ _ _ h.fr;have hs:=Hg.sum (a:=fun j=>g mv j) (n:=é.length) g1;have hd:=Hg.add hs (g2 hm) 1 (-1);have z:=Hg.all hp h.cor hd fun t ht=>by
    have e:=eq t ht;have a:(zab é.length fun j=>g mv j.toNat*st é j.toNat (cl fs t))=zab é.length fun j=>st é j.toNat (cl fs t)*g mv j.toNat:=zad fun j _=>aC ..;rw[a,e];unfold fn;rw[ae];lia
  intro c hc;have:=z c hc;unfold fn st at this;rw[ae] at this;lia
theorem Fj (h:rD p w é é.length fs)(lw:∀y∈é,y.length=w)(lW:W.length=w)(gd:Good p w é.length (st é) (fn ê))(z:∀i,i<fs.length->dot (é.getD (nm fs i) []) W=0)(j:Nat)(hj:j<é.length):dot (é.getD j []) W=0:=by
 obtain⟨g1,_⟩:=gd _ _ _ h.fr;have key:∀i,i<é.length->dot (é.getD i []) W=zab w fun c=>st é i c*fn W c:=fun i hi=>by
  rw[pE (lw _ (mO hi)) lW];rfl
 rw[key j hj];exact Hg.weigh (g1 j hj) fun i hi=>by rw[<-key _ (h.sW hi)];exact z i hi
theorem Gu (hp:zak p)(h:rD p w é é.length fs)(lw:∀y∈é,y.length=w)(lg:ê.length=w)(lW:W.length=w)(z:∀i,i<fs.length->dot (é.getD (nm fs i) []) W=0){c:Nat}(hc:c<w)(nz:g (p8 p fs ê) c≠0)(own:∀c',c'<w->c'≠c->(∃t,t<fs.length/\cl fs t=c')\/g W c'=0)(pW:¬p∣g W c):dot ê W≠0:=by
 have p2:=hp.1;have OL:=h.p8 J lg;obtain⟨x,hx⟩:=OL.eq;have ok:=tY (show 0<p by lia) lg Z h.rok;intro e
 -- by p: ê OM what is left of it OM
 have d1:p∣(zab w fun c=>fn (p8 p fs ê) c*fn W c)-dot ê W:=by
  rw[pE lg lW];have a:p∣(zab w fun c=>fn (p8 p fs ê) c*fn W c)-zab w fun c=>(fn ê c-zab fs.length fun s=>x s*st é (nm fs s.toNat) c)*fn W c:=oC fun c hc=>by
   rw[<-cT];exact aD (hx c hc)
  have b:(zab w fun c=>(fn ê c-zab fs.length fun s=>x s*st é (nm fs s.toNat) c)*fn W c)=zab w fun i=>g ê i.toNat*g W i.toNat:=by
   have b1:(zab w fun c=>(fn ê c-zab fs.length fun s=>x s*st é (nm fs s.toNat) c)*fn W c)=(zab w fun c=>fn ê c*fn W c) + -1*zab w fun c=>zab fs.length fun s=>x s*(st é (nm fs s.toNat) c*fn W c):=by
    rw[<-zaj,<-zax];refine zad fun c _=>?_;have:(zab fs.length fun s=>x s*(st é (nm fs s.toNat) c*fn W c))=(zab fs.length fun s=>x s*st é (nm fs s.toNat) c)*fn W c:=by
     rw[<-zcg];exact zad fun s _=>by grind
    rw[this];grind
   have b2:(zab w fun c=>zab fs.length fun s=>x s*(st é (nm fs s.toNat) c*fn W c))=0:=by
    rw[zbf,zad (G:=fun _=>0) fun s hs=>?_,zbj];rw[zaj,ae];have:=z s hs;rw[pE (lw _ (mO (h.sW hs))) lW] at this;have e2:(zab w fun c=>st é (nm fs s) c*fn W c)=0:=this;rw[e2,bw]
   rw[b1,b2];unfold fn;lia
  rwa [b] at a
 rw[e,dC] at d1;have d2:p∣g (p8 p fs ê) c*g W c:=by
  have a:p∣(zab w fun c'=>fn (p8 p fs ê) c'*fn W c')-zab w fun c'=>fn (p8 p fs ê) c'*fn W c'*if c'=(c:Int) then 1 else 0:=oC fun c' xW=>by
   by_cases q:c'=c
   .rw[aB J,b3,cC];exact bq _
   .rw[ak J,bw,dC];rcases own c' xW q with ⟨t,ht,et⟩ | y
    .have:=OL.zero t ht;rw[et] at this;exact aD this
    .unfold fn;rw[ae,y,bw];exact bq _
  rw[mY (F:=fun c'=>fn (p8 p fs ê) c'*fn W c') hc] at a;have:=(oK a).mp d1;unfold fn at this;rwa [ae] at this
 have r:=ok.2.g (show 0<p by lia) c;exact pW (oI hp d2 fun d3=>by
  have:=aW (show 0<g (p8 p fs ê) c by lia) d3;lia)
theorem Ch {p:Int}(hp:zak p):∀(n:Nat){b:Int},1<=b->b.toNat<=n->∃(j:Nat)(b':Int),b=p^j*b'/\¬p∣b'
 | 0,b,h,l=>by lia
 | n+1,b,h,l=>by
  by_cases c:p∣b
  .obtain⟨b1,hb⟩:=c;have p2:=hp.1;have b10:1<=b1:=by
    rcases Int.lt_or_le 0 b1 with q | q
    .exact q
    .have:=ay q (show 0<=p by lia);lia
   have:2*b1<=p*b1:=aq kg J;obtain⟨j,b',e,nb⟩:=Ch hp n (b:=b1) b10 J;exact⟨j+1,b',by rw[hb,e,bu];grind,nb⟩
  .exact⟨0,b,by rw[eY,cY],c⟩
theorem FC (hp:zak p)(h:rD p w é é.length fs)(ci:CI p fs.length (mt (rowsOf é fs)))(lw:∀y∈é,y.length=w){á:List Int}{am:Int->Int}{b:Int}(lg:ê.length=w)(lW:W.length=w)(z:∀i,i<fs.length->dot (é.getD (nm fs i) []) W=0){c:Nat}(hc:c<w)(nz:g (p8 p fs ê) c≠0)
 (b1:1<=b)(Wc:g W c=b)(Wt:∀t,t<fs.length->cl fs t≠c->g W (cl fs t)=-(g á t))(own:∀c',c'<w->c'≠c->(∃t,t<fs.length/\cl fs t=c')\/g W c'=0)(sol:∀i:Nat,i<fs.length->(zab fs.length fun t=>st é (nm fs i) (cl fs t.toNat)*fn á t)=b*am i):dot ê W≠0:=by
  have p2:=hp.1;obtain⟨j,b',eb,nb⟩:=Ch hp b.toNat b1 (Nat.le_refl _);have pj:0<p^j:=f7 J;have ON:=ci.pow J j (y:=fn á) fun i hi=>by
    have e:(zab fs.length fun t=>mt (rowsOf é fs) i t*fn á t)=b*am i:=by
      rw[<-sol i hi];exact zad fun t ht=>by rw[uF hi ht,ae]
    rw[e,eb,aK];exact dh ..
  have div:∀c',c'<w->p^j∣g W c':=fun c' xW=>by
    by_cases q:c'=c
    · rw[q,Wc,eb];exact dh ..
    · rcases own c' xW q with ⟨t,ht,et⟩ | y
      · rw[<-et,Wt t ht (by rw[et];exact q)]
        have:=ON t ht;unfold fn at this;rw[ae] at this;exact eM.mpr this
      · rw[y];exact bq _
  obtain⟨W',hW'⟩:∃W':List Int,W'=W.map fun x=>x/p^j:=⟨_,Z⟩;have lW':W'.length=w:=by rw[hW',aa,lW]
  have gW:∀c',c'<w->g W c'=p^j*g W' c':=fun c' xW=>by
    rw[hW',rY J,cZ (div c' xW)]
  have Sl:∀v:List Int,v.length=w->dot v W=p^j*dot v W':=fun v lv=>by
    rw[pE lv lW,pE lv lW',<-zaj];refine zad fun i hi=>?_;rw[ae,gW i hi];grind
  have cancel:∀x:Int,p^j*x=0->x=0:=fun x e=>(g8.mp e).resolve_left J;have r:=Gu hp h lw lg lW' (fun i hi=>cancel _ (by rw[<-Sl _ (lw _ (mO (h.sW hi)))];exact z i hi)) hc nz (fun c' xW q=>(own c' xW q).imp id fun y=>cancel _ (by rw[<-gW c' xW];exact y)) (fun d=>nb (by
    have e:b'=g W' c:=aT (show p^j≠0 by lia) (by rw[<-eb,<-gW c hc,Wc]);rw[e];exact d))
  rw[Sl ê lg];exact fun e=>r (cancel _ e)
variable {é:List (List Int)}
theorem Lj {v W0:List Int}{w c:Nat}{b:Int}(lv:v.length=w)(lW:W0.length=w)(hc:c<w)(z:g W0 c=0):dot v ((W0.map fun x=>-x).set c b)=b*g v c-dot v W0:=by
 rw[pE lv (by rw[cq,aa,lW]),pE lv lW];have e:(zab w fun i=>g v i.toNat*g ((W0.map fun x=>-x).set c b) i.toNat)=(zab w fun i=>b*g v i.toNat*if i=(c:Int) then 1 else 0) + -1*zab w fun i=>g v i.toNat*g W0 i.toNat:=by
  rw[<-zaj,<-zax];refine zad fun i hi=>?_;rw[ae,zA ziU]
  by_cases q:i=c
  .rw[aB q,aB J,q,z];grind
  .rw[ak q,ak J,rY J];grind
 rw[e,mY (F:=fun i=>b*g v i.toNat) hc,ae];lia
theorem rD.Lp {p:Int}(hp:zak p){w:Nat}{fs:List Fd}(h:rD p w é é.length fs){ê:List Int}(lg:ê.length=w){c:Nat}(nz:g (zbe p fs ê) c≠0):c∉lh fs:=fun hm=>by
 have p2:=hp.1;unfold lh at hm;obtain⟨f,hf,e⟩:=List.mem_map.mp hm;obtain⟨t,ht,et⟩:=List.getElem_of_mem hf;have cz:=(h.p8 J lg).zero t ht;have ec:cl fs t=c:=by unfold cl;rw[getD_at (List.getElem?_eq_getElem ht),et,e]
 rw[ec] at cz;unfold fn at cz;rw[ae] at cz;have r:=(tY (show 0<p by lia) lg Z h.rok).2.g (show 0<p by lia) c;have:=aW (show 0<g (zbe p fs ê) c by lia) cz;lia
theorem HX {p:Int}(hp:zak p){w:Nat}{fs:List Fd}(h:rD p w é é.length fs)(ci:CI p fs.length (mt (rowsOf é fs)))(lw:∀y∈é,y.length=w){ê á am:List Int}{b:Int}(lg:ê.length=w)(lt:á.length=fs.length){c:Nat}(hc:c<w)(nz:g (zbe p fs ê) c≠0)(b1:1<=b)
 (T9:∀i,i<fs.length->g am i=g (é.getD (nm fs i) []) c)(sol:∀i:Nat,i<fs.length->(zab fs.length fun t=>st é (nm fs i) (cl fs t.toNat)*fn á t)=b*g am i)(gd:Good p w é.length (st é) (fn ê)) :
    JK é ê (((u9 w (lh fs) á).map fun x=>-x).set c b) 0:=by
  have nc:=h.Lp hp lg nz;have lW0:=o6 w (lh fs) á;have z0:g (u9 w (lh fs) á) c=0:=uX nc (oJ h);obtain⟨W,hW⟩:∃W:List Int,W=((u9 w (lh fs) á).map fun x=>-x).set c b:=⟨_,Z⟩;rw[<-hW];have lW:W.length=w:=by rw[hW,cq,aa,lW0]
  have zero:∀i,i<fs.length->dot (é.getD (nm fs i) []) W=0:=fun i hi=>by
    have lv:=lw _ (mO (è:=é) (h.sW hi));rw[hW,Lj lv lW0 hc z0,D4 hp h lv lt,<-T9 i hi];have:=sol i hi;have e:(zab fs.length fun t=>fn (é.getD (nm fs i) []) (cl fs t.toNat)*fn á t)=b*g am i:=this;rw[e];lia
  have gW:∀c',c'<w->g W c'=if c'=c then b else -(g (u9 w (lh fs) á) c'):=fun c' xW=>by
    rw[hW,zA ziU]
    by_cases q:c'=c
    · rw[aB q,aB q]
    · rw[ak q,ak q,rY J]
  refine⟨fun j hj=>?_,fun d=>?_⟩
  · rw[Fj h lw lW gd zero j hj];exact c7 _
  · refine FC hp h ci lw lg lW zero hc nz b1 (by rw[gW c hc,aB Z]) (á:=á) (am:=fun i=>g am i.toNat) (fun t ht q=>?_) (fun c' xW q=>?_) (fun i hi=>by rw[ae];exact sol i hi) (gC.mp d)
    · rw[gW _ (h.cor.colw t ht),ak q,GH (h.Et hp) (oJ h) (Ak ht) (mW J)]
    · by_cases m:c'∈lh fs
      · unfold lh at m
        obtain⟨f,hf,e⟩:=List.mem_map.mp m;obtain⟨t,ht,et⟩:=List.getElem_of_mem hf;exact .inl ⟨t,ht,by unfold cl;rw[getD_at (List.getElem?_eq_getElem ht),et,e]⟩
      · right
        rw[gW c' xW,ak q,uX m (oJ h)];rfl
variable {ps:List (Int×Int)}
theorem Fl {n:Int}(h:zav n ps)(hp:zak n):ps=[(n,n)]:=by
 have p2:=hp.1;have all:∀x∈ps,x.1=n:=fun x hx=>by
  have a:=(zdd h x).mp hx;rcases Int.lt_or_le x.1 n with c | c
  .exact absurd a.2.1 (hp.2 x.1 a.1.1 c)
  .have:=aW J a.2.1;lia
 cases ps with
 | nil =>
  have e:=h.prd;have e':(1:Int)=n:=e;lia
 | cons x l =>
  cases l with
  | nil =>
   have e:=h.prd;have e':x.2*1=n:=e;have a:=all x av;have b:x.2=n:=J;have:x=(n,n):=gk a b;rw[this]
  | cons y l =>
   exfalso;have s:=h.srt;rw[fV] at s;have lt:=s.1 y av;have a:=all x av;have b:=all y (ar _ av);lia
theorem Fw {n:Int}(h:zav n ps)(e:ps=[(n,n)]):zak n:=by
 have:=h.row (n,n) (by rw[e];exact av);exact this.pr
def gD (k C:Nat):Nat:=(2*(k*C)+1)^k
def gG (k C Cg:Nat):Nat:=gD k C+C+Cg
def gB (k C Cg:Nat):Nat:=k*(gD k C*(zaw k C*gG k C Cg))+gD k C+1
def Tz (k C Cg:Nat):Bool:=Nat.ble (128*(gB k C Cg*gB k C Cg)*(128*(gB k C Cg*gB k C Cg))*2^480) (2^9000) && Nat.blt (gG k C Cg) (2^9000) && Nat.blt (gD k C*((k+1)*(zaw k Cg*Cg))) (zcu Pq.S)
end Rx
open Rx renaming numsOf→zag, lh→zaq, rowsOf→zas, wh→zbr, cn→zbs, gB→zbt, JJ→zbu, nh→zby, gG→zca, JK→zcc, KQ→zcm, oJ→zcq, yz→zcy, tj→zcz
namespace Rg
variable {n st:Nat}
def rv (n:Int)(t:Int×Int×Int)(x:Int):Int:=if (x-t.2.1)%(n/t.1)=0 then t.2.2 else 0
def Dc (n:Int)(è:List (Int×Int×Int))(x:Int):Int:=(è.map fun t=>rv n t x).sum
theorem BI (n:Int)(è:List (Int×Int×Int))(t:Int×Int×Int)(x:Int):Dc n (è++[t]) x=Dc n è x+rv n t x:=by
 unfold Dc;rw[List.map_append,List.sum_append];simp
theorem lay0 (hn:0<n)(ub:0<st)(ë à:Int)(a:List Int):∀x:Int,zae a x=zae a x+(if (x-ë)%st=0/\(x%n)/st<((0:Nat):Int) then à else 0):=fun x=>by
 rw[ak,dF];rintro⟨_,z⟩;have:=cK (aE x (show (n:Int)≠0 by lia)) (show (0:Int)<=st by lia);lia
theorem US {p i:Nat}(ub:0<st)(DS:n=p*st)(hi:i<p){ë à:Int}{a b:List Int}(hb:b.length=n)
 (h:∀x:Int,zae b x=zae a x+(if (x-ë)%st=0/\(x%n)/st<(i:Int) then à else 0)) :
    0<=ë%st+i*st/\ë%st+i*st<(n:Int)/\∀x:Int,zae (b.set (ë%st+i*st).toNat (zae b (ë%st+i*st)+à)) x=zae a x+(if (x-ë)%st=0/\(x%n)/st<((i+1:Nat):Int) then à else 0):=by
  have l0:=aE ë (show (st:Int)≠0 by lia);have l1:=aA ë (show (0:Int)<st by lia);have hn:0<n:=by rw[DS];exact fZ J ub
  have is0:(0:Int)<=(i:Int)*st:=bI J J;have YM:((i:Int)+1)*st<=n:=by
    rw[DS,aP];exact aq J J
  rw[eU,cY] at YM;have y0:0<=ë%st+i*st:=J;have y1:ë%st+i*st<(n:Int):=J;have ym:(ë%st+i*st)%n=ë%st+i*st:=aX y0 y1;have sn:(st:Int)∣n:=⟨p,by rw[DS,aP,aC]⟩;have ys:(ë%st+i*st)/st=i:=by rw[jh _ _ J,g5 l0 l1,dO]
  refine⟨y0,y1,fun x=>?_⟩;have e:=Ld.Al hb hn (ë%st+i*st) (zae b (ë%st+i*st)+à) x;rw[ym] at e;rw[e]
  by_cases c:x%n=ë%st+i*st
  · have c1:(x-ë)%st=0:=by
      have:x%st=ë%st:=by
        rw[<-bf x sn,c,fq,bf _ (c7 _)]
      rw[eZ,this];simp
    rw[aB c,aB ⟨c1,by rw[c,ys];lia⟩];have ex:zae b (ë%st+i*st)=zae b x:=zcw hb _ _ (by rw[ym,c]);rw[ex,h,ak]
    · lia
    · rintro⟨_,z⟩
      rw[c,ys] at z;lia
  · rw[ak c,h]
    by_cases d:(x-ë)%st=0/\(x%n)/st<(i:Int)
    · rw[aB d,aB ⟨d.1,by have:=d.2;lia⟩]
    · rw[ak d,ak]
      rintro⟨z1,z2⟩;have zi:(x%n)/st=i:=by
        rcases Int.lt_or_le ((x%n)/st) i with w | w
        · exact absurd ⟨z1,w⟩ d
        · lia
      have zm:(x%n)%st=ë%st:=by
        rw[bf x sn];have:=aL.mpr z1;exact this
      have:=bP (x%n) st;rw[zi,zm,aC] at this;exact c this.symm
theorem WE {p:Nat}(ub:0<st)(hp:0<p)(DS:n=p*st){ë à:Int}{a b:List Int}
 (h:∀x:Int,zae b x=zae a x+(if (x-ë)%st=0/\(x%n)/st<(p:Int) then à else 0)):∀x:Int,zae b x=zae a x+(if (x-ë)%st=0 then à else 0):=fun x=>by
  rw[h];have hn:0<n:=by rw[DS];exact fZ hp ub
  have lt:(x%n)/st<(p:Int):=by
    refine g9 J ?_;have:=aA x (show (0:Int)<n by lia);rw[DS,aP] at this ⊢;exact this
  by_cases c:(x-ë)%st=0
  · rw[aB ⟨c,lt⟩,aB c]
  · rw[ak (fun z=>c z.1),ak c]
theorem IK {p:Nat}(ub:0<st)(hp:0<p)(DS:n=p*st)(ë:Int):ë%st<(n:Int)/\(((n:Int)-ë%st-1)/st+1).toNat=p:=by
 have l0:=aE ë (show (st:Int)≠0 by lia);have l1:=aA ë (show (0:Int)<st by lia);have e:(n:Int)=p*st:=by rw[DS,aP]
 have s1:(st:Int)<=n:=by rw[e];have:=aq (show (1:Int)<=p by lia) (show (0:Int)<=st by lia);lia
 refine⟨J,?_⟩;have q:((n:Int)-ë%st-1)/st=p-1:=by
  have r:(n:Int)-ë%st-1=(st-1-ë%st)+(p-1)*st:=by rw[cT,cY,e];lia
  rw[r,jh _ _ J,g5 J J,dO]
 rw[q];lia
theorem zL {p:Int}(hn:1<=n)(hp:2<=p)(d:p∣n):∃st:Nat,(n:Int)/p=st/\0<st/\n=p.toNat*st/\p.toNat<=n:=by
 obtain⟨e,he⟩:=d;have e1:1<=e:=by
  rcases Int.lt_or_le e 1 with z | z
  .have:=ay (show e<=0 by lia) (show 0<=p by lia);lia
  .exact z
 have q:(n:Int)/p=e:=by rw[he];exact aG _ J
 have f:n=p.toNat*e.toNat:=by
  have:((p.toNat*e.toNat:Nat):Int)=p*e:=by rw[aP,bZ J,bZ J]
  lia
 exact⟨e.toNat,by rw[q,bZ J],J,f,by rw[f];exact Nat.le_mul_of_pos_right _ J⟩
theorem XQ {n st:Nat}(hn:0<n)(ub:0<st)(ë à:Int)(a:List Int):∀x:Int,zae a x=zae a x+(if (x-ë)%st=0/\((x-ë)%n)/st<((0:Nat):Int) then à else 0):=fun x=>by
 rw[ak,dF];rintro⟨_,z⟩;have:=cK (aE (x-ë) (show (n:Int)≠0 by lia)) (show (0:Int)<=st by lia);lia
theorem U4 {n st p i:Nat}(ub:0<st)(DS:n=p*st)(hi:i<p){ë à:Int}{a b:List Int}(hb:b.length=n)
  (h:∀x:Int,zae b x=zae a x+(if (x-ë)%st=0/\((x-ë)%n)/st<(i:Int) then à else 0)) :
  ∀x:Int,zae (b.set ((ë+i*st)%n).toNat (zae b (ë+i*st)+à)) x=zae a x+(if (x-ë)%st=0/\((x-ë)%n)/st<((i+1:Nat):Int) then à else 0):=fun x=>by
 have hn:0<n:=by rw[DS];exact fZ J ub
 have is0:(0:Int)<=(i:Int)*st:=bI J J;have YM:((i:Int)+1)*st<=n:=by
  rw[DS,aP];exact aq J J
 rw[eU,cY] at YM;have ism:((i:Int)*st)%n=i*st:=aX is0 J;have sn:(st:Int)∣n:=⟨p,by rw[DS,aP,aC]⟩;rw[Ld.Al hb hn]
 by_cases c:x%n=(ë+i*st)%n
 .have d:(x-ë)%n=i*st:=by rw[eZ,c,<-eZ,show ë+(i:Int)*st-ë=i*st by lia,ism]
  have d1:(x-ë)%st=0:=by rw[<-bf _ sn,d,Int.mul_emod_left]
  have d2:((x-ë)%n)/st=i:=by rw[d,ig _ J]
  rw[aB c,aB ⟨d1,by rw[d2];lia⟩,<-zcw hb x _ c,h,ak]
  .lia
  .rintro⟨_,z⟩;rw[d2] at z;lia
 .rw[ak c,h]
  by_cases d:(x-ë)%st=0/\((x-ë)%n)/st<(i:Int)
  .rw[aB d,aB ⟨d.1,by have:=d.2;lia⟩]
  .rw[ak d,ak];rintro⟨z1,z2⟩;have zi:((x-ë)%n)/st=i:=by
    rcases Int.lt_or_le (((x-ë)%n)/st) i with w | w
    .exact absurd ⟨z1,w⟩ d
    .lia
   have zm:((x-ë)%n)%st=0:=by rw[bf _ sn];exact z1
   have e:=bP ((x-ë)%n) st;rw[zi,zm,dO,aC] at e;refine c ?_;have:((x-ë)%n+ë)%n=(i*st+ë)%n:=by rw[e]
   rw[jE,show x-ë+ë=x by lia,Int.add_comm ((i:Int)*st)] at this;exact this
theorem VC {n st p:Nat}(ub:0<st)(hp:0<p)(DS:n=p*st){ë à:Int}{a b:List Int}
  (h:∀x:Int,zae b x=zae a x+(if (x-ë)%st=0/\((x-ë)%n)/st<(p:Int) then à else 0)):∀x:Int,zae b x=zae a x+(if (x-ë)%st=0 then à else 0):=fun x=>by
 rw[h];have hn:0<n:=by rw[DS];exact fZ hp ub
 have lt:((x-ë)%n)/st<(p:Int):=by
  refine g9 J ?_;have:=aA (x-ë) (show (0:Int)<n by lia);rw[DS,aP] at this ⊢;exact this
 by_cases c:(x-ë)%st=0
 .rw[aB ⟨c,lt⟩,aB c]
 .rw[ak (fun z=>c z.1),ak c]
end Rg
open Rg renaming rv→zbc, Dc→zbn
namespace Rt
variable {x:Int×Int}
open Pt (Parts)
structure Pc (n:Nat)(p q u:Int):Prop where
 n1:1<=n
 p2:2<=p
 q2:1<=q
 pq:p∣q
 qn:q∣(n:Int)
 le:((n:Int)/q*u-1)%q=0
theorem Pc.mk' {n:Nat}{ps:List (Int×Int)}(hn:1<=n)(hp:Parts n ps)(hx:x∈ps){u:Int}(hu:((n:Int)/x.2*u-1)%x.2=0):Pc n x.1 x.2 u:=by
 obtain⟨m,e,e',_,q2,d,_⟩:=zcs hp hx;exact⟨hn,(hp.row x hx).pr.1,J,d,⟨m,e⟩,hu⟩
section
variable {f:Int->Int}
variable {n:Nat}{p q u:Int}
def top (p q u k:Int):Int:=(k*u%q)/(q/p)
theorem Pc.m (h:Pc n p q u):∃m,q=p*m/\q/p=m/\1<=m:=by
 obtain⟨m,e⟩:=h.pq;have hp:=h.p2;have hq:=h.q2;refine⟨m,e,by rw[e];exact aG _ J,?_⟩;rcases Int.lt_or_le m 1 with z | z
 .have:=ay (show m<=0 by lia) (show 0<=p by lia);lia
 .exact z
theorem Pc.ZP (h:Pc n p q u):∃c,(n:Int)=q*c/\(n:Int)/q=c/\(n:Int)/p=c*(q/p):=by
 obtain⟨c,e⟩:=h.qn;obtain⟨m,em,Go,m1⟩:=h.m;have hp:=h.p2;have hq:=h.q2;refine⟨c,e,by rw[e];exact aG _ J,?_⟩;rw[Go,e,em,aK,aG _ J,aC]
theorem Pc.step (h:Pc n p q u)(k t:Int):((k+t*((n:Int)/p))*u)%q=(k*u+t*(q/p))%q:=by
 obtain⟨c,e,e1,e2⟩:=h.ZP;have d:q∣c*u-1:=by have:=bR h.le;rwa [e1] at this
 refine aL.mpr (bS ?_);rw[e2];have:(k+t*(c*(q/p)))*u-(k*u+t*(q/p))=t*(q/p)*(c*u-1):=by
  rw[eU,cS,b3];have:t*(c*(q/p))*u=t*(q/p)*(c*u):=by
   rw[aK,aK t (q/p),aC c (q/p),aK]
  lia
 rw[this];exact ax d
theorem Pc.top_lt (h:Pc n p q u)(k:Int):0<=top p q u k/\top p q u k<p:=by
 obtain⟨m,em,Go,m1⟩:=h.m;have hq:=h.q2;unfold top;rw[Go];have a:=aE (k*u) (show q≠0 by lia);have b:=aA (k*u) (show 0<q by lia);refine⟨cK a J,g9 J ?_⟩;rw[<-em];exact b
theorem Pc.Ca (h:Pc n p q u)(k t:Int):top p q u (k+t*((n:Int)/p))=(top p q u k+t)%p:=by
 obtain⟨m,em,Go,m1⟩:=h.m;have hq:=h.q2;have hp:=h.p2;unfold top;rw[h.step,Go];have r0:=aE (k*u) (show q≠0 by lia);have e1:(k*u+t*m)%q=(k*u%q+t*m)%q:=by rw[jE]
 rw[e1];generalize k*u%q=r;have rd:=bP r m;have s0:=aE r (show m≠0 by lia);have s1:=aA r (show 0<m by lia);generalize hs:r%m=s at rd s0 s1;generalize hT:r/m=T at rd;have er:r+t*m=s+m*(T+t):=by rw[<-rd,fH,aC t m];lia
 rw[er];have td:=bP (T+t) p;have v0:=aE (T+t) (show p≠0 by lia);have v1:=aA (T+t) (show 0<p by lia);generalize (T+t)%p=v at td v0 v1;generalize (T+t)/p=w at td;have e2:s+m*(T+t)=(s+m*v)+q*w:=by
  rw[<-td,fH,em,<-aK m p w,aC m p];lia
 rw[e2,dE];have mv0:0<=m*v:=bI J v0;have mv1:m*v+m<=q:=by
  have:=ay (show v+1<=p by lia) (show 0<=m by lia);rw[fH,b3,aC m p,<-em] at this;exact this
 rw[aX J J,jj _ _ J,g5 s0 s1,dO]
def dl (n:Nat)(p q u k:Int):Int:=k+(p-1-top p q u k)*((n:Int)/p)
theorem Pc.Ah (h:Pc n p q u)(k:Int):top p q u (dl n p q u k)=p-1:=by
 have t:=h.top_lt k;unfold dl;rw[h.Ca,show top p q u k+(p-1-top p q u k)=p-1 by lia,aX J J]
theorem Di {k:Int}(h:top p q u k=p-1):dl n p q u k=k:=by
 unfold dl;rw[h];simp
theorem Pc.Em (h:Pc n p q u)(k t:Int):(dl n p q u (k+t*((n:Int)/p)))%n=(dl n p q u k)%n:=by
 unfold dl;rw[h.Ca];have hp:=h.p2;have td:=bP (top p q u k+t) p;generalize (top p q u k+t)%p=v at td;generalize (top p q u k+t)/p=w at td;have np:p*((n:Int)/p)=n:=cZ (bJ h.pq h.qn);have e:k+t*((n:Int)/p)+(p-1-v)*((n:Int)/p)=k+(p-1-top p q u k)*((n:Int)/p)+n*w:=by
  have f:t+(p-1-v)=(p-1-top p q u k)+p*w:=J;rw[Int.add_assoc,<-eU,f,eU,aC p w,aK,np,aC w];lia
 rw[e,dE]
def E (n:Nat)(p q u:Int)(f:Int->Int):Int->Int:=fun k=>f k-f (dl n p q u k)
theorem Pc.L6 (h:Pc n p q u)(hf:zbb n f):zbb n (E n p q u f):=fun x y e=>by
 unfold E;rw[hf x y e];congr 1;refine hf _ _ ?_;have et:top p q u x=top p q u y:=by
  unfold top;have:(x*u)%q=(y*u)%q:=by
   have d:q∣x*u-y*u:=by
    rw[<-cT];exact aD (bJ h.qn (bR (aL.mp e)))
   exact aL.mpr (bS d)
  rw[this]
 unfold dl;rw[et];exact Ld.vF _ e
theorem QO (f g:Int->Int)(k:Int):E n p q u (fun x=>f x+g x) k=E n p q u f k+E n p q u g k:=by unfold E;dsimp only;lia
theorem Om (h:∀k,f k=0)(k:Int):E n p q u f k=0:=by unfold E;rw[h,h];rfl
theorem Pc.M6 (h:Pc n p q u)(f:Int->Int){k:Int}(t:top p q u k=p-1):E n p q u f k=0:=by unfold E;rw[Di t];lia
def Inv (n:Nat)(p:Int)(f:Int->Int):Prop:=∀k t:Int,f (k+t*((n:Int)/p))=f k
theorem Pc.QE (h:Pc n p q u)(hf:Inv n p f)(k:Int):E n p q u f k=0:=by
 unfold E dl;rw[hf];lia
end
section
variable {n:Nat}{p q u p' q' u':Int}
theorem sS (d:q∣(n:Int)/p')(k t:Int):top p q u (k+t*((n:Int)/p'))=top p q u k:=by
 unfold top;congr 1;refine aL.mpr (bS ?_);rw[eU,show k*u+t*((n:Int)/p')*u-k*u=t*((n:Int)/p')*u by lia];exact aD (ax d)
theorem Bo (d:q∣(n:Int)/p'){f:Int->Int}(hf:Inv n p' f):Inv n p' (E n p q u f):=fun k t=>by
 unfold E dl;rw[sS d,hf];congr 1;have:k+t*((n:Int)/p')+(p-1-top p q u k)*((n:Int)/p)=k+(p-1-top p q u k)*((n:Int)/p)+t*((n:Int)/p'):=J;rw[this,hf]
theorem Ad (d:q'∣(n:Int)/p){f:Int->Int}(hf:∀k,top p' q' u' k=p'-1->f k=0)(k:Int)(t:top p' q' u' k=p'-1):E n p q u f k=0:=by
 unfold E dl;rw[hf k t,hf _ (by rw[sS d];exact t)];rfl
end
def R (n:Nat):List ((Int×Int)×Int)->(Int->Int)->Int->Int
 | [],f=>f
 | z::l,f=>R n l (E n z.1.1 z.1.2 z.2 f)
structure pQ (n:Nat)(ps:List (Int×Int))(l:List ((Int×Int)×Int)):Prop where
 n1:1<=n
 hp:Parts n ps
 map:l.map Prod.fst=ps
 le:∀z∈l,((n:Int)/z.1.2*z.2-1)%z.1.2=0
theorem pQ.pc {n:Nat}{ps:List (Int×Int)}{l:List ((Int×Int)×Int)}(h:pQ n ps l){z:(Int×Int)×Int}(hz:z∈l):Pc n z.1.1 z.1.2 z.2 :=
 Pc.mk' h.n1 h.hp (by rw[<-h.map];exact dR.mpr ⟨z,hz,Z⟩) (h.le z hz)
theorem CK {n:Nat}{ps:List (Int×Int)}(hp:Parts n ps){y:Int×Int}(hx:x∈ps)(hy:y∈ps)(ne:x.1≠y.1):x.2∣(n:Int)/y.1:=by
 have c:=Rs.Bv hp hx hy ne;obtain⟨m,e,e',_,q2,⟨t,d⟩,_⟩:=zcs hp hy;have p2:=(hp.row y hy).pr.1;have:(n:Int)/y.1=(n:Int)/y.2*t:=by
  rw[e',e,d,aK,aG _ J,aC]
 rw[this];exact aD c
theorem yH (n:Nat):∀(l:List ((Int×Int)×Int))(f g:Int->Int)(k:Int),R n l (fun x=>f x+g x) k=R n l f k+R n l g k
 | [],f,g,k=>rfl
 | z::l,f,g,k=>by
  simp only[R];have:E n z.1.1 z.1.2 z.2 (fun x=>f x+g x)=fun x=>E n z.1.1 z.1.2 z.2 f x+E n z.1.1 z.1.2 z.2 g x:=funext fun x=>QO f g x;rw[this,yH n l]
theorem xV (n:Nat):∀(l:List ((Int×Int)×Int)){f:Int->Int},(∀k,f k=0)->∀k,R n l f k=0
 | [],f,h,k=>h k
 | z::l,f,h,k=>xV n l (fun k=>Om h k) k
theorem L4 {n:Nat}{ps:List (Int×Int)}:∀{l:List ((Int×Int)×Int)}{x:Int×Int},(∀z∈l,Pc n z.1.1 z.1.2 z.2)->(∀z∈l,z.1=x\/z.1.2∣(n:Int)/x.1)->(∃z∈l,z.1=x)->∀{f:Int->Int},Inv n x.1 f->∀k,R n l f k=0
 | [],x,_,_,⟨z,hz,_⟩,f,hf,k=>by cases hz
 | z::l,x,hpc,hc,hex,f,hf,k=>by
  simp only[R]
  by_cases e:z.1=x
  .refine xV n l (fun k=>(hpc z av).QE ?_ k) k;rw[e];exact hf
  .have d:z.1.2∣(n:Int)/x.1:=(hc z av).resolve_left e;refine L4 (ps:=ps) (fun y hy=>hpc y (ar _ hy)) (fun y hy=>hc y (ar _ hy)) ?_ (Bo d hf) k;obtain⟨y,hy,ey⟩:=hex;rcases List.mem_cons.mp hy with w | w
   .exact absurd (w▸ey) e
   .exact⟨y,w,ey⟩
theorem pQ.kill {n:Nat}{ps:List (Int×Int)}{l:List ((Int×Int)×Int)}(h:pQ n ps l)(hx:x∈ps){f:Int->Int}(hf:Inv n x.1 f)(k:Int):R n l f k=0:=by
 have mem:∀z∈l,z.1∈ps:=fun z hz=>by rw[<-h.map];exact dR.mpr ⟨z,hz,Z⟩
 refine L4 (ps:=ps) (x:=x) (fun z hz=>h.pc hz) (fun z hz=>?_) ?_ hf k
 .by_cases e:z.1=x
  .exact .inl e
  .refine .inr (CK h.hp (mem z hz) hx fun w=>e ?_)
   -- two parts of one prime are the same
   rcases List.mem_iff_getElem.mp (mem z hz) with ⟨i,hi,ei⟩;rcases List.mem_iff_getElem.mp hx with ⟨j,hj,ej⟩;have pw:=de.mp h.hp.srt;rcases Nat.lt_trichotomy i j with g | g | g
   .have:=pw i j hi hj g;rw[ei,ej] at this;lia
   .subst g;rw[<-ei,ej]
   .have:=pw j i hj hi g;rw[ei,ej] at this;lia
 .rw[<-h.map] at hx;obtain⟨z,hz,e⟩:=List.mem_map.mp hx;exact⟨z,hz,e⟩
theorem Nq (n:Nat)(t:Int×Int×Int)(hp:t.1∣(n:Int)):Inv n t.1 (zbc n t):=fun k s=>by
 unfold zbc;have:(k+s*((n:Int)/t.1)-t.2.1)%((n:Int)/t.1)=(k-t.2.1)%((n:Int)/t.1):=by
  rw[show k+s*((n:Int)/t.1)-t.2.1=k-t.2.1+s*((n:Int)/t.1) by lia,fq]
 rw[this]
theorem pQ.yO {n:Nat}{ps:List (Int×Int)}{l:List ((Int×Int)×Int)}(h:pQ n ps l):∀{è:List (Int×Int×Int)},(∀t∈è,t.1∈ps.map Prod.fst)->∀k,R n l (zbn n è) k=0
 | [],_,k=>xV n l (fun _=>Z) k
 | t::r,hm,k=>by
  have e:zbn n (t::r)=fun x=>zbc n t x+zbn n r x:=funext fun x=>by unfold zbn;rw[List.map_cons,List.sum_cons]
  rw[e,yH,h.yO (è:=r) fun y hy=>hm y (ar _ hy)];obtain⟨x,hx,ex⟩:=List.mem_map.mp (hm t List.mem_cons_self);have dv:t.1∣(n:Int):=by rw[<-ex];exact((zdd h.hp x).mp hx).2.1
  rw[h.kill hx (by rw[ex];exact Nq n t dv)];rfl
variable {Q:Int->Int->Prop}
theorem Es:∀(l:List (Int×Int)),(∀x∈l,Pt.Row x)->(2:Int)^l.length<=zct l
 | [],_=>by simp[zct]
 | x::r,h=>by
  have a:=Es r fun y hy=>h y (ar _ hy);have b:=Pt.tR (h x av);have c:=Pt.rB r fun y hy=>h y (ar _ hy);simp only[zct,List.length_cons];rw[bu,aC];exact cL J a (Int.pow_nonneg J) J
theorem yP {n:Nat}{ps:List (Int×Int)}(hp:Parts n ps)(hn:n<=420):ps.length<=8:=by
 rcases Nat.lt_or_ge 8 ps.length with z | z
 .have a:=Es ps hp.row;rw[hp.prd] at a;have b:(2:Int)^9<=2^ps.length:=Pt.BY (p:=2) O z;have c:(2:Int)^9=512:=O;lia
 .exact z
section
variable {k:Int}
variable {n:Nat}{p q u:Int}
theorem Pc.Aj (h:Pc n p q u)(k:Int):(k*u%q >= q-q/p)↔top p q u k=p-1:=by
 obtain⟨m,em,Go,m1⟩:=h.m;have hq:=h.q2;have hp:=h.p2;have t:=h.top_lt k;unfold top at t ⊢;rw[Go] at t ⊢;have r1:=aA (k*u) (show 0<q by lia);have rd:=bP (k*u%q) m;have s0:=aE (k*u%q) (show m≠0 by lia);have s1:=aA (k*u%q) (show 0<m by lia);generalize k*u%q=r at *;generalize r/m=T at *;constructor
 .intro g;rcases Int.lt_or_le T (p-1) with z | z
  .have:=ay (show T+1<=p-1 by lia) (show 0<=m by lia);rw[fH,b3,cS,b3,aC m p,<-em] at this;lia
  .lia
 .intro g;rw[g,cS,b3,aC m p,<-em] at rd;lia
theorem Pc.Ei (h:Pc n p q u){x y:Int}(e:x%n=y%n):top p q u x=top p q u y:=by
 unfold top;have:(x*u)%q=(y*u)%q:=by
  have d:q∣x*u-y*u:=by
   rw[<-cT];exact aD (bJ h.qn (bR (aL.mp e)))
  exact aL.mpr (bS d)
 rw[this]
def xu (p q u:Int):Nat->List Int
 | 0=>[]
 | i+1=>xu p q u i++(if top p q u i=p-1 then [(i:Int)] else [])
theorem rj {p q u:Int}:∀{i:Nat}{k:Int},k∈xu p q u i↔0<=k/\k<i/\top p q u k=p-1
 | 0,k=>⟨fun h=>(nomatch h),fun h=>by lia⟩
 | i+1,k=>by
  unfold xu;rw[g6,rj];constructor
  .rintro (⟨a,b,c⟩ | h)
   .exact⟨a,J,c⟩
   .split at h
    .rename_i e;rw[bF.mp h];exact⟨J,J,e⟩
    .cases h
  .rintro⟨a,b,c⟩
   by_cases z:k=i
   .subst z;exact .inr (by rw[aB c];simp)
   .exact .inl ⟨a,J,c⟩
theorem wq {p q u:Int}:∀i:Nat,(xu p q u i).Pairwise (· < ·)
 | 0=>List.Pairwise.nil
 | i+1=>by
  unfold xu;rw[fG];refine⟨wq i,by split<;>simp,fun x hx y hy=>?_⟩;have:=(rj.mp hx).2.1;split at hy
  .rw[bF] at hy;lia
  .cases hy
theorem Ay {p q u:Int}:∀i:Nat,(xu p q u i).length<=i
 | 0=>aH _
 | i+1=>by
  unfold xu;rw[aI];have:=Ay (p:=p) (q:=q) (u:=u) i;split<;>simp<;>lia
def D (n:Nat)(p q u k:Int):Int:=dl n p q u k%n
theorem Pc.QC (h:Pc n p q u)(k:Int):D n p q u k∈xu p q u n:=by
 have n1:=h.n1;refine rj.mpr ⟨aE _ J,aA _ J,?_⟩;unfold D;rw[h.Ei (bf _ (c7 _)),h.Ah]
theorem Pc.MA (h:Pc n p q u){x:Int}(hk:k∈xu p q u n):(x-k)%((n:Int)/p)=0↔D n p q u x=k:=by
 obtain⟨k0,k1,kt⟩:=rj.mp hk;have np:p*((n:Int)/p)=n:=cZ (bJ h.pq h.qn);have dn:((n:Int)/p)∣n:=⟨p,by rw[aC];exact np.symm⟩;constructor
 .intro e;obtain⟨t,ht⟩:=Int.dvd_of_emod_eq_zero e;have ex:x=k+t*((n:Int)/p):=by rw[aC];lia
  unfold D;rw[ex,h.Em,Di kt,aX k0 k1]
 .intro e;unfold D at e;have e2:(dl n p q u x)%((n:Int)/p)=k%((n:Int)/p):=by rw[<-e,bf _ dn]
  unfold dl at e2;rw[fq] at e2;exact aL.mp e2
theorem NO (n p h m x:Int):zbc n (p,h,-m) x=- zbc n (p,h,m) x:=by
 unfold zbc;dsimp only;split<;>simp
structure PI (n:Nat)(p q u:Int)(f:Int->Int)(j:Nat)(b:List Int):Prop where
 len:b.length=n
 at_:∀x,zae b x=f x-(if D n p q u x∈(xu p q u n).take j then f (dl n p q u x) else 0)
theorem pi0 {f:Int->Int}{b:List Int}(hb:b.length=n)(h:∀x,zae b x=f x):PI n p q u f 0 b:=⟨hb,fun x=>by rw[j9,ak ke,Int.sub_zero];exact h x⟩
theorem w6 {l:List Int}(h:l.Pairwise (· < ·)){j:Nat}(e:l[j]?=some k):¬k∈l.take j:=fun m=>by
 obtain⟨i,hi,ei⟩:=List.mem_iff_getElem.mp m;obtain⟨hj,ej⟩:=List.getElem?_eq_some_iff.mp e;rw[cO] at hi;have pw:=de.mp h i j J hj J;rw[ix] at ei;rw[ei,ej] at pw;lia
theorem Pc.Ny (h:Pc n p q u){f:Int->Int}{b:List Int}{j:Nat}(pi:PI n p q u f j b)(e:(xu p q u n)[j]?=some k):zae b k=f k:=by
 have hk:=ah e;obtain⟨k0,k1,kt⟩:=rj.mp hk;have dk:D n p q u k=k:=by unfold D;rw[Di kt,Int.emod_eq_of_lt k0 k1]
 rw[pi.at_,dk,ak (w6 (wq n) e),dC]
theorem sy {l:List Int}{j:Nat}{x:Int}(e:l[j]?=some k):x∈l.take (j+1)↔x∈l.take j\/x=k:=by
 rw[zba e,g6,bF]
theorem Pc.ZU (h:Pc n p q u){f:Int->Int}(hf:zbb n f){b b':List Int}{j:Nat}(pi:PI n p q u f j b)(e:(xu p q u n)[j]?=some k)(lb:b'.length=n)
 (hb:∀x,zae b' x=zae b x+zbc n (p,k,-(f k)) x):PI n p q u f (j+1) b':=⟨lb,fun x=>by
  have hk:=ah e;obtain⟨k0,k1,kt⟩:=rj.mp hk;rw[hb,pi.at_];unfold zbc;dsimp only
  by_cases c:D n p q u x=k
  · rw[aB ((h.MA hk).mpr c),ak (by rw[c];exact w6 (wq n) e),aB (by rw[sy e];exact .inr c)]
    have:f (dl n p q u x)=f k:=hf _ _ (by show D n p q u x=_;rw[c,aX k0 k1]);rw[this];lia
  · rw[ak fun z=>c ((h.MA hk).mp z)]
    by_cases d:D n p q u x∈(xu p q u n).take j
    · rw[aB d,aB (by rw[sy e];exact .inl d)];lia
    · rw[ak d,ak (by rw[sy e];exact fun z=>z.elim d c)];lia⟩
theorem Pc.UQ (h:Pc n p q u){f:Int->Int}(hf:zbb n f){b:List Int}{j:Nat}(pi:PI n p q u f j b)(e:(xu p q u n)[j]?=some k)(z:f k=0):PI n p q u f (j+1) b:=by
 refine h.ZU hf pi e pi.len fun x=>?_;unfold zbc;rw[z];split<;>simp
theorem Pc.NP (h:Pc n p q u){f:Int->Int}{b:List Int}(pi:PI n p q u f (xu p q u n).length b)(x:Int):zae b x=E n p q u f x:=by
 rw[pi.at_,bY,aB (h.QC x)];rfl
end
theorem DE (n:Nat):∀(l:List ((Int×Int)×Int))(z:(Int×Int)×Int)(f:Int->Int),R n (l++[z]) f=E n z.1.1 z.1.2 z.2 (R n l f)
 | [],z,f=>rfl
 | y::l,z,f=>by simp only[List.cons_append,R];exact DE n l z _
theorem LW {n:Nat}:∀{l:List ((Int×Int)×Int)},(∀z∈l,Pc n z.1.1 z.1.2 z.2)->∀{f:Int->Int},zbb n f->zbb n (R n l f)
 | [],_,f,hf=>hf
 | z::l,h,f,hf=>LW (l:=l) (fun y hy=>h y (ar _ hy)) ((h z av).L6 hf)
structure qJ (n:Nat)(P:Int->Int->Prop)(a b:List Int)(è:List (Int×Int×Int)):Prop where
 ok:∀t∈è,P t.1 t.2.1/\0<=t.2.1/\t.2.1<n/\¬t.2.2=0
 nd:(è.map fun t=>(t.1,t.2.1)).Nodup
 eq:∀x,zae a x=zae b x+zbn n è x
theorem qJ.weak {n:Nat}{P:Int->Int->Prop}{a b:List Int}{è:List (Int×Int×Int)}(h:qJ n P a b è)(w:∀x y,P x y->Q x y):qJ n Q a b è :=
 ⟨fun t ht=>let ⟨a,b⟩:=h.ok t ht;⟨w _ _ a,b⟩,h.nd,h.eq⟩
theorem rows0 {n:Nat}{P:Int->Int->Prop}(a:List Int):qJ n P a a []:=⟨fun t h=>(nomatch h),List.nodup_nil,fun x=>by unfold zbn;simp⟩
theorem qJ.snoc {n:Nat}{P:Int->Int->Prop}{a b b':List Int}{è:List (Int×Int×Int)}{p k m:Int}(h:qJ n P a b è)(w:∀x y,P x y->Q x y)(q:Q p k)(no:∀x y,P x y->¬(x=p/\y=k))(k0:0<=k)(k1:k<n)(mz:¬m=0)
 (hb:∀x,zae b' x=zae b x+zbc n (p,k,-m) x):qJ n Q a b' (è++[(p,k,m)]):=by
  refine⟨fun t ht=>?_,?_,fun x=>?_⟩
  · rcases List.mem_append.mp ht with z | z
    · obtain⟨a,b⟩:=h.ok t z;exact⟨w _ _ a,b⟩
    · rw[bF.mp z];exact⟨q,k0,k1,mz⟩
  · rw[aS,iy]
    refine⟨h.nd,ke,fun x hx y hy e=>?_⟩;obtain⟨t,ht,et⟩:=List.mem_map.mp hx;have ey:y=(p,k):=by simpa using hy
    refine no _ _ (h.ok t ht).1 ?_;rw[e,ey] at et;exact⟨cU Prod.fst et,cU Prod.snd et⟩
  · rw[Rg.BI,hb,h.eq,NO];lia
variable {ps:List (Int×Int)}{l:List ((Int×Int)×Int)}
theorem uu {n:Nat}{p' q' u':Int}:∀{l:List ((Int×Int)×Int)},(∀z∈l,q'∣(n:Int)/z.1.1)->∀{f:Int->Int},(∀k,top p' q' u' k=p'-1->f k=0)->∀k,top p' q' u' k=p'-1->R n l f k=0
 | [],_,f,hf,k,t=>hf k t
 | z::l,h,f,hf,k,t=>uu (l:=l) (fun y hy=>h y (ar _ hy)) (fun k t=>Ad (h z av) hf k t) k t
theorem HL {n:Nat}{ps:List (Int×Int)}(hp:Parts n ps):∀{l:List ((Int×Int)×Int)},(∀z∈l,Pc n z.1.1 z.1.2 z.2)->(∀z∈l,z.1∈ps)->l.Pairwise (fun y z=>y.1.1≠z.1.1)->∀{z:(Int×Int)×Int},z∈l->∀(f:Int->Int)(k:Int),top z.1.1 z.1.2 z.2 k=z.1.1-1->R n l f k=0
 | [],_,_,_,z,hz,f,k,t=>by cases hz
 | y::l,hpc,hm,nd,z,hz,f,k,t=>by
  have ⟨n1,n2⟩:=fV.mp nd;simp only[R];rcases List.mem_cons.mp hz with w | w
  .subst w;refine uu (fun x hx=>?_) (fun k t=>(hpc z av).M6 f t) k t;exact CK hp (hm z av) (hm x (ar _ hx)) (n1 x hx)
  .exact HL hp (l:=l) (fun x hx=>hpc x (ar _ hx)) (fun x hx=>hm x (ar _ hx)) n2 w _ k t
theorem pQ.nd {n:Nat}(h:pQ n ps l):l.Pairwise (fun y z=>y.1.1≠z.1.1):=by
 have s:=h.hp.srt;rw[<-h.map,List.pairwise_map] at s;exact s.imp fun w=>by lia
theorem pQ.drop {n:Nat}(h:pQ n ps l){z:(Int×Int)×Int}(hz:z∈l)(f:Int->Int)(k:Int)(t:top z.1.1 z.1.2 z.2 k=z.1.1-1):R n l f k=0 :=
 HL h.hp (fun z hz=>h.pc hz) (fun z hz=>by rw[<-h.map];exact dR.mpr ⟨z,hz,Z⟩) h.nd hz f k t
theorem Ij {n N:Nat}{l':List ((Int×Int)×Int)}{P:Int->Prop} (Φ:(Int->Int)->Int->Int)(add:∀f g,Φ (fun x=>f x+g x)=fun x=>Φ f x+Φ g x)(zero:∀x,Φ (fun _=>0) x=0)(kill:∀(f:Int->Int)(p:Int),zbb n f->P p->Inv n p f->∀k,R N l' (Φ f) k=0) :
  ∀{l:List ((Int×Int)×Int)},(∀z∈l,Pc n z.1.1 z.1.2 z.2)->(∀z∈l,P z.1.1)->∀{f:Int->Int},zbb n f->∀k,R N l' (Φ fun x=>f x-R n l f x) k=0
 | [],_,_,f,_,k=>by
  have:(fun x=>f x-R n [] f x)=fun _=>0:=funext fun x=>by simp[R]
  rw[this];exact xV N l' zero k
 | z::l,h,hP,f,hf,k=>by
  have pc:=h z av;have e:(fun x=>f x-R n (z::l) f x)=fun x=>f (dl n z.1.1 z.1.2 z.2 x)+(E n z.1.1 z.1.2 z.2 f x-R n l (E n z.1.1 z.1.2 z.2 f) x):=funext fun x=>by
   simp only[R];show f x-_=f (dl n z.1.1 z.1.2 z.2 x)+((f x-f (dl n z.1.1 z.1.2 z.2 x))-_)
   lia
  rw[e,add,yH,Ij Φ add zero kill (l:=l) (fun y hy=>h y (ar _ hy)) (fun y hy=>hP y (ar _ hy)) (pc.L6 hf) k];have JV:zbb n fun x=>f (dl n z.1.1 z.1.2 z.2 x):=fun x y w=>by
   refine hf _ _ ?_;unfold dl;rw[pc.Ei w];exact Ld.vF _ w
  rw[kill _ z.1.1 JV (hP z av) fun k t=>hf _ _ (pc.Em k t)];rfl
variable {n:Nat}{ps:List (Int×Int)}{l:List ((Int×Int)×Int)}
theorem IP (hp:Parts n ps){x:Int×Int}(hx:x∈ps){u u':Int}(hu:((n:Int)/x.2*u-1)%x.2=0)(Yt:((n:Int)/x.2*u'-1)%x.2=0)(k:Int):top x.1 x.2 u k=top x.1 x.2 u' k:=by
 obtain⟨_,_,_,_,q2,_⟩:=zcs hp hx;have a:=zcr (n:=(n:Int)) (q:=x.2) (ë:=k) (u:=u) J hu;have b:=zcr (n:=(n:Int)) (q:=x.2) (ë:=k) (u:=u') J Yt;unfold top;rw[Rs.Ab (Rs.ug hp hx) a b ziZ]
theorem GX {n:Nat}{ps:List (Int×Int)}(hp:Parts n ps):∀{l l':List ((Int×Int)×Int)},l.map Prod.fst=l'.map Prod.fst->(∀z∈l,z.1∈ps)->(∀z∈l,((n:Int)/z.1.2*z.2-1)%z.1.2=0)->(∀z∈l',((n:Int)/z.1.2*z.2-1)%z.1.2=0)->∀f,R n l f=R n l' f
 | [],[],_,_,_,_,f=>rfl
 | [],_::_,e,_,_,_,f=>by simp at e
 | _::_,[],e,_,_,_,f=>by simp at e
 | z::l,z'::l',e,hm,h,h',f=>by
  rw[c5,c5,List.cons.injEq] at e;obtain⟨e1,e2⟩:=e;simp only[R];have ee:E n z.1.1 z.1.2 z.2 f=E n z'.1.1 z'.1.2 z'.2 f:=funext fun k=>by
   have a:=h z av;have b:=h' z' av;rw[<-e1] at b ⊢;unfold E dl;rw[IP hp (hm z av) a b]
  rw[ee];exact GX hp e2 (fun y hy=>hm y (ar _ hy)) (fun y hy=>h y (ar _ hy)) (fun y hy=>h' y (ar _ hy)) _
theorem pQ.one {YN:List (Int×Int)}{l':List ((Int×Int)×Int)}(h:pQ n ps l)(h':pQ n YN l')(f:Int->Int):R n l f=R n l' f:=by
 have e:=zdc h'.hp h.hp;subst e;exact GX h.hp (h.map.trans h'.map.symm) (fun z hz=>by rw[<-h.map];exact dR.mpr ⟨z,hz,Z⟩) h.le h'.le f
theorem pQ.W5 (h:pQ n ps l) (Φ:(Int->Int)->Int->Int)(add:∀f g,Φ (fun x=>f x+g x)=fun x=>Φ f x+Φ g x)(zero:∀x,Φ (fun _=>0) x=0)(inv:∀(f:Int->Int)(p:Int),p∣(n:Int)->zbb n f->Inv n p f->Inv n p (Φ f)){f:Int->Int}(hf:zbb n f) :
  R n l (Φ f)=R n l (Φ (R n l f)):=funext fun k=>by
 have gone:=Ij (n:=n) (N:=n) (l':=l) (P:=fun p=>p∈ps.map Prod.fst) Φ add zero (fun g p hg hP hi k=>by
  obtain⟨x,hx,ex⟩:=List.mem_map.mp hP;have pd:p∣(n:Int):=by rw[<-ex];exact((zdd h.hp x).mp hx).2.1
  refine h.kill hx ?_ k;rw[ex];exact inv g p pd hg hi) (l:=l) (fun z hz=>h.pc hz) (fun z hz=>by rw[<-h.map];exact dR.mpr ⟨z.1,dR.mpr ⟨z,hz,Z⟩,Z⟩) hf k
 have e:Φ f=fun x=>Φ (fun y=>f y-R n l f y) x+Φ (R n l f) x:=by
  rw[<-add];congr 1;funext y;lia
 rw[e,yH,gone,dO]
theorem pQ.turn (h:pQ n ps l){f:Int->Int}(hf:zbb n f)(zE:Int):R n l (fun x=>f (x-zE))=R n l (fun x=>R n l f (x-zE)) :=
 h.W5 (fun g x=>g (x-zE)) (fun _ _=>Z) (fun _=>Z) (fun g p _ _ hi k t=>by
  show g (k+t*((n:Int)/p)-zE)=g (k-zE)
  rw[show k+t*((n:Int)/p)-zE=k-zE+t*((n:Int)/p) by lia,hi]) hf
def cv (n:Nat)(f g:Int->Int)(x:Int):Int:=zab n fun j=>f j*g (x-j)
theorem RF {n:Nat}:∀{l:List ((Int×Int)×Int)}{B:Nat}{f:Int->Int},(∀k,(f k).natAbs<=B)->∀k,(R n l f k).natAbs<=2^l.length*B
 | [],B,f,h,k=>by simp only[R,List.length_nil,Nat.pow_zero,Nat.one_mul];exact h k
 | z::l,B,f,h,k=>by
  simp only[R,List.length_cons];have:=RF (n:=n) (l:=l) (B:=2*B) (f:=E n z.1.1 z.1.2 z.2 f) (fun k=>by
   unfold E;have a:=h k;have b:=h (dl n z.1.1 z.1.2 z.2 k);omega) k
  rw[dQ,gS];exact this
theorem KH {n:Nat}{ps:List (Int×Int)}(hp:Parts n ps){x:Int×Int}(hx:x∈ps):∃v:Int,1<=v/\v<x.2/\v*((n:Int)/x.2)%x.2=1:=by
 obtain⟨_,_,_,_,q2,_⟩:=zcs hp hx;have g:=Rs.Ai hp hx;have eq:((x.2.toNat:Nat):Int)=x.2:=bZ J;obtain⟨v,hv⟩:=Ld.MX (st:=(n:Int)/x.2) (n:=x.2.toNat) J (by rw[eq];exact g);rw[eq] at hv;have one:(1:Int)%x.2=1:=aX O J;rw[one] at hv;have h0:=aE v (show x.2≠0 by lia);have h1:=aA v (show 0<x.2 by lia);have e:(v%x.2)*((n:Int)/x.2)%x.2=1:=by
  rw[<-hv,aC ((n:Int)/x.2) v,g3,bf _ (c7 _),<-g3]
 refine⟨v%x.2,?_,h1,e⟩;rcases Int.lt_or_le (v%x.2) 1 with z | z
 .have:v%x.2=0:=J;rw[this,bn,eO] at e;lia
 .exact z
theorem Ks {n q u:Int}(hq:2<=q)(h:u*(n/q)%q=1):(n/q*u-1)%q=0:=by
 have one:(1:Int)%q=1:=aX O J;exact aL.mp (by rw[aC,h,one])
variable {ps:List (Int×Int)}{l:List ((Int×Int)×Int)}{f:Int->Int}
def low (p q u k:Int):Int:=(k*u%q)%(q/p)
def fw (p q u j k:Int):Int:=if low p q u j=low p q u k then (if top p q u k=top p q u j then 1 else if top p q u k=p-1 then -1 else 0) else 0
def V:List ((Int×Int)×Int)->Int->Int->Int
 | [],_,_=>1
 | z::l,j,k=>fw z.1.1 z.1.2 z.2 j k*V l j k
theorem CY:∀(l:List ((Int×Int)×Int))(z:(Int×Int)×Int)(j k:Int),V (l++[z]) j k=V l j k*fw z.1.1 z.1.2 z.2 j k
 | [],z,j,k=>by simp[V]
 | y::l,z,j,k=>by
  show fw y.1.1 y.1.2 y.2 j k*V (l++[z]) j k=fw y.1.1 y.1.2 y.2 j k*V l j k*fw z.1.1 z.1.2 z.2 j k
  rw[CY l z,aK]
theorem Io (p q u j k:Int):fw p q u j k=0\/fw p q u j k=1\/fw p q u j k=-1:=by
 unfold fw;split
 .split
  .exact .inr (.inl Z)
  .split
   .exact .inr (.inr Z)
   .exact .inl Z
 .exact .inl Z
theorem ww:∀(l:List ((Int×Int)×Int))(j k:Int),V l j k=0\/V l j k=1\/V l j k=-1
 | [],_,_=>.inr (.inl Z)
 | z::l,j,k=>by
  have a:=Io z.1.1 z.1.2 z.2 j k;have b:=ww l j k;show fw z.1.1 z.1.2 z.2 j k*V l j k=0\/fw z.1.1 z.1.2 z.2 j k*V l j k=1\/fw z.1.1 z.1.2 z.2 j k*V l j k=-1
  rcases a with a | a | a<;>rcases b with b | b | b<;>rw[a,b]<;>decide
section
variable {n:Nat}{p q u:Int}
theorem Pc.sr (h:Pc n p q u)(k:Int):k*u%q=low p q u k+(q/p)*top p q u k:=by
 unfold low top;exact(Int.emod_add_mul_ediv _ _).symm
theorem Pc.HF (h:Pc n p q u)(k t:Int):low p q u (k+t*((n:Int)/p))=low p q u k:=by
 obtain⟨m,em,Go,m1⟩:=h.m;unfold low;rw[h.step,Go];have d:m∣q:=⟨p,by rw[em,aC]⟩;rw[bf _ d,bf _ d,fq]
theorem Pc.GM (h:Pc n p q u)(k:Int):low p q u (dl n p q u k)=low p q u k:=h.HF k _
theorem Pc.D5 (h:Pc n p q u)(j k:Int):(j*u%q=k*u%q)↔(low p q u j=low p q u k/\top p q u j=top p q u k):=by
 constructor
 .intro e;unfold low top;rw[e];exact⟨rfl,rfl⟩
 .rintro⟨a,b⟩;rw[h.sr,h.sr,a,b]
theorem Pc.AF (h:Pc n p q u)(j k:Int):(j*u%q=k*u%q)↔q∣k-j:=by
 obtain⟨c,e,e1,e2⟩:=h.ZP;have d:q∣c*u-1:=by have:=bR h.le;rwa [e1] at this
 constructor
 .intro z;have z1:q∣k*u-j*u:=bR (aL.mp z.symm);have z2:q∣(k-j)*(c*u):=by
   rw[show (k-j)*(c*u)=(k*u-j*u)*c by rw[<-cT,aK,aC c u]];exact aD z1
  have z3:q∣(k-j)*(c*u-1):=ax d;have:k-j=(k-j)*(c*u)-(k-j)*(c*u-1):=by rw[cS,b3];lia
  rw[this];exact bp z2 z3
 .intro z;refine(aL.mpr (bS ?_)).symm;rw[<-cT];exact aD z
theorem Pc.Md (h:Pc n p q u){j:Int}(t:¬top p q u j=p-1)(k:Int):fw p q u j k=(if q∣k-j then 1 else 0)-(if q∣k-dl n p q u j then 1 else 0):=by
 have a:(q∣k-j)↔(low p q u j=low p q u k/\top p q u j=top p q u k):=(h.AF j k).symm.trans (h.D5 j k);have b:(q∣k-dl n p q u j)↔(low p q u j=low p q u k/\p-1=top p q u k):=by
  have:=(h.AF (dl n p q u j) k).symm.trans (h.D5 (dl n p q u j) k);rwa [h.GM,h.Ah] at this
 unfold fw
 by_cases l:low p q u j=low p q u k
 .rw[aB l]
  by_cases e:top p q u k=top p q u j
  .rw[aB e,aB (a.mpr ⟨l,e.symm⟩),ak (fun z=>t (by rw[<-e];exact(b.mp z).2.symm))];rfl
  .rw[ak e,ak (fun z=>e (a.mp z).2.symm)]
   by_cases g:top p q u k=p-1
   .rw[aB g,aB (b.mpr ⟨l,g.symm⟩)];rfl
   .rw[ak g,ak (fun z=>g (b.mp z).2.symm)];rfl
 .rw[ak l,ak (fun z=>l (a.mp z).1),ak (fun z=>l (b.mp z).1)];rfl
theorem GW {p':Int}(d:q∣(n:Int)/p')(k t:Int):(k+t*((n:Int)/p'))*u%q=k*u%q:=by
 obtain⟨c,e⟩:=d;rw[e,eU,show t*(q*c)*u=q*(t*c*u) by rw[<-aK t q c,aC t q,aK,aK,aK],dE]
theorem FU {p':Int}(d:q∣(n:Int)/p')(k t:Int):low p q u (k+t*((n:Int)/p'))=low p q u k:=by unfold low;rw[GW d]
theorem Iq {p':Int}(d:q∣(n:Int)/p')(j t k:Int):fw p q u (j+t*((n:Int)/p')) k=fw p q u j k:=by unfold fw;rw[FU d,sS d]
end
theorem Eo {n:Nat}{p':Int}:∀{l:List ((Int×Int)×Int)},(∀z∈l,z.1.2∣(n:Int)/p')->∀j t k:Int,V l (j+t*((n:Int)/p')) k=V l j k
 | [],_,_,_,_=>rfl
 | z::l,h,j,t,k=>by
  show fw z.1.1 z.1.2 z.2 (j+t*((n:Int)/p')) k*V l (j+t*((n:Int)/p')) k=fw z.1.1 z.1.2 z.2 j k*V l j k
  rw[Iq (h z av),Eo (fun y hy=>h y (ar _ hy))]
def X:List ((Int×Int)×Int)->Int->Int->Int
 | [],_,_=>1
 | z::l,j,k=>(if z.1.2∣k-j then 1 else 0)*X l j k
theorem Mh:∀(l:List ((Int×Int)×Int))(j k:Int),X l j k=if (∀z∈l,z.1.2∣k-j) then 1 else 0
 | [],j,k=>by simp[X]
 | z::l,j,k=>by
  show (if z.1.2∣k-j then 1 else 0)*X l j k=_
  rw[Mh l]
  by_cases a:z.1.2∣k-j
  .by_cases b:∀z∈l,z.1.2∣k-j
   .rw[aB a,aB b,aB (fun y hy=>by rcases List.mem_cons.mp hy with e | e;rw[e];exact a;exact b y e)];rfl
   .rw[aB a,ak b,ak (fun y=>b fun x hx=>y x (ar _ hx))];rfl
  .rw[ak a,bn,ak (show ¬∀y∈z::l,y.1.2∣k-j from fun y=>a (y z av))]
theorem Ep {n:Nat}{p':Int}:∀{l:List ((Int×Int)×Int)},(∀z∈l,z.1.2∣(n:Int)/p')->∀j t k:Int,X l (j+t*((n:Int)/p')) k=X l j k
 | [],_,_,_,_=>rfl
 | z::l,h,j,t,k=>by
  show (if z.1.2∣k-(j+t*((n:Int)/p')) then 1 else 0)*X l (j+t*((n:Int)/p')) k=(if z.1.2∣k-j then 1 else 0)*X l j k
  rw[Ep (fun y hy=>h y (ar _ hy))];congr 1;have d:z.1.2∣t*((n:Int)/p'):=ax (h z av)
  by_cases c:z.1.2∣k-j
  .rw[aB c,aB (by rw[show k-(j+t*((n:Int)/p'))=(k-j)-t*((n:Int)/p') by lia];exact bp c d)]
  .rw[ak c,ak (fun z=>c (by rw[show k-j=(k-(j+t*((n:Int)/p')))+t*((n:Int)/p') by lia];exact bT z d))]
theorem pQ.dv {n:Nat}(h:pQ n ps l){j k:Int}(d:∀z∈l,z.1.2∣k-j):(n:Int)∣k-j:=by
 have:=Rs.EC (t:=k-j) h.hp.row h.hp.srt (fun x hx=>by
  rw[<-h.map] at hx;obtain⟨z,hz,e⟩:=List.mem_map.mp hx;rw[<-e];exact d z hz)
 rwa [h.hp.prd] at this
theorem pQ.Xn {n:Nat}(h:pQ n ps l)(j k:Int):X l j k=if (n:Int)∣k-j then 1 else 0:=by
 rw[Mh]
 by_cases c:(n:Int)∣k-j
 .rw[aB c,aB (fun z hz=>bJ (h.pc hz).qn c)]
 .rw[ak c,ak (fun d=>c (h.dv d))]
theorem XC {n:Nat}(hn:1<=n)(hf:zbb n f)(j:Int):zab n (fun k=>f k*(if (n:Int)∣k-j then 1 else 0))=f j:=by
 have j0:=aE j (show (n:Int)≠0 by lia);have j1:=aA j (show 0<(n:Int) by lia);have e:zab n (fun k=>f k*(if (n:Int)∣k-j then 1 else 0))=zab n (fun k=>if k=j%n then f k else 0):=zad fun k hk=>by
  by_cases c:((k:Nat):Int)=j%n
  .rw[aB c,aB (by rw[c];exact bR (by rw[eZ,bf _ (c7 _),cC];rfl)),b3]
  .rw[ak c,ak,bw];intro z;refine c ?_;have:=aL.mpr (bS z);rwa [aX J J] at this
 rw[e,Ld.Cb j0,aB j1,hf.md]
theorem pQ.TB {n:Nat}(h:pQ n ps l){i j:Nat}{y z:(Int×Int)×Int}(ne:i≠j)(ei:l[i]?=some y)(ej:l[j]?=some z):y.1.2∣(n:Int)/z.1.1:=by
 have pw:=de.mp h.nd;obtain⟨hi,ei'⟩:=List.getElem?_eq_some_iff.mp ei;obtain⟨hj,ej'⟩:=List.getElem?_eq_some_iff.mp ej;have my:y.1∈ps:=by rw[<-h.map];exact dR.mpr ⟨y,ah ei,Z⟩
 have mz:z.1∈ps:=by rw[<-h.map];exact dR.mpr ⟨z,ah ej,Z⟩
 refine CK h.hp my mz ?_;rcases Nat.lt_or_ge i j with g | g
 .have:=pw i j hi hj g;rwa [ei',ej'] at this
 .have:=pw j i hj hi J;rw[ei',ej'] at this;exact fun e=>this e.symm
theorem pQ.QP {n:Nat}(h:pQ n ps l)(hf:zbb n f):∀i:Nat,i<=l.length->∀j:Int,(∀z∈l.take i,¬top z.1.1 z.1.2 z.2 j=z.1.1-1)->R n (l.take i) f j=zab n (fun k=>f k*(V (l.take i) j k*X (l.drop i) j k)):=by
 intro i
 induction i with
 | zero =>
  intro _ j _;rw[j9,List.drop_zero];show f j=_
  rw[<-XC h.n1 hf j];refine zad fun k _=>?_;show _=f k*(1*X l j k)
  rw[h.Xn,cY]
 | succ i ih =>
  intro il j hj;have ei:l[i]?=some l[i]:=az J;have et:l.take (i+1)=l.take i++[l[i]]:=zba ei;have ed:l.drop i=l[i]::l.drop (i+1):=iQ J;have pc:=h.pc (cx (by lia:i<l.length));have tz:¬top l[i].1.1 l[i].1.2 l[i].2 j=l[i].1.1-1:=hj _ (by rw[et];exact aZ _ ke);have ca:∀y∈l.take i,y.1.2∣(n:Int)/l[i].1.1:=fun y hy=>by
   obtain⟨a,ha,ea⟩:=List.mem_iff_getElem.mp hy;rw[cO] at ha;rw[ix] at ea;exact h.TB (i:=a) (j:=i) J (by rw[<-ea];exact az J) ei
  have cb:∀y∈l.drop (i+1),y.1.2∣(n:Int)/l[i].1.1:=fun y hy=>by
   obtain⟨a,ha,ea⟩:=List.mem_iff_getElem.mp hy;rw[cI] at ha;rw[List.getElem_drop] at ea;exact h.TB (i:=i+1+a) (j:=i) J (by rw[<-ea];exact az J) ei
  have Ua:∀z∈l.take i,¬top z.1.1 z.1.2 z.2 j=z.1.1-1:=fun z hz=>hj z (by rw[et];exact cA _ hz);generalize l[i]=z at *;have e1:=ih J j Ua;have e2:=ih J (dl n z.1.1 z.1.2 z.2 j) fun y hy=>by unfold dl;rw[sS (ca y hy)];exact Ua y hy
  rw[et,DE];show R n (l.take i) f j-R n (l.take i) f (dl n z.1.1 z.1.2 z.2 j)=_
  rw[e1,e2,ed];have key:∀k:Int,f k*(V (l.take i) j k*X (z::l.drop (i+1)) j k)=f k*(V (l.take i++[z]) j k*X (l.drop (i+1)) j k)+f k*(V (l.take i) (dl n z.1.1 z.1.2 z.2 j) k*X (z::l.drop (i+1)) (dl n z.1.1 z.1.2 z.2 j) k):=fun k=>by
   rw[CY,pc.Md tz];show f k*(V (l.take i) j k*((if z.1.2∣k-j then 1 else 0)*X (l.drop (i+1)) j k))=_+f k*(V (l.take i) (dl n z.1.1 z.1.2 z.2 j) k*((if z.1.2∣k-dl n z.1.1 z.1.2 z.2 j then 1 else 0)*X (l.drop (i+1)) (dl n z.1.1 z.1.2 z.2 j) k))
   have x1:X (l.drop (i+1)) (dl n z.1.1 z.1.2 z.2 j) k=X (l.drop (i+1)) j k:=by unfold dl;exact Ep cb _ _ _
   have x2:V (l.take i) (dl n z.1.1 z.1.2 z.2 j) k=V (l.take i) j k:=by unfold dl;exact Eo ca _ _ _
   rw[x1,x2,<-fH];congr 1;rw[aK,<-fH,<-eU];congr 2;lia
  have s:=zad (n:=n) (F:=fun k=>f k*(V (l.take i) j k*X (z::l.drop (i+1)) j k)) (G:=fun k=>f k*(V (l.take i++[z]) j k*X (l.drop (i+1)) j k)+f k*(V (l.take i) (dl n z.1.1 z.1.2 z.2 j) k*X (z::l.drop (i+1)) (dl n z.1.1 z.1.2 z.2 j) k)) (fun k _=>key k);rw[zax] at s;lia
theorem pQ.wsum {n:Nat}(h:pQ n ps l)(hf:zbb n f){j:Int}(hj:∀z∈l,¬top z.1.1 z.1.2 z.2 j=z.1.1-1):R n l f j=zab n (fun k=>f k*V l j k):=by
 have:=h.QP hf l.length (aH _) j (by rw[bY];exact hj);rw[bY,jQ] at this;rw[this];exact zad fun k _=>by show f k*(V l j k*1)=_;rw[b3]
variable {ps:List (Int×Int)}
section
variable {n:Nat}{p q u:Int}
theorem Pc.Qi (h:Pc n p q u)(k:Int):0<=k*u%q/\k*u%q<q:=⟨aE _ (by have:=h.q2;lia),aA _ (by have:=h.q2;lia)⟩
theorem Pc.Kg (h:Pc n p q u)(j:Int):q-q/p+(j*u%q)%(q/p)=dl n p q u j*u%q:=by
 obtain⟨m,em,Go,m1⟩:=h.m;rw[h.sr (dl n p q u j),h.GM,h.Ah];show q-q/p+low p q u j=low p q u j+q/p*(p-1)
 rw[Go,cS,b3];have:m*p=q:=by rw[em,aC]
 lia
theorem Pc.M3 (h:Pc n p q u){j:Int}(t:¬top p q u j=p-1)(k:Int):(if k*u%q=q-q/p+(j*u%q)%(q/p) then (-1:Int) else if k*u%q=j*u%q then 1 else 0)=fw p q u j k:=by
 rw[h.Kg,h.Md t];have a:=h.AF j k;have b:=h.AF (dl n p q u j) k;have ab:¬(q∣k-j/\q∣k-dl n p q u j):=fun z=>t (by
  have e1:=((h.D5 j k).mp (a.mpr z.1)).2;have e2:=((h.D5 (dl n p q u j) k).mp (b.mpr z.2)).2;rw[h.Ah] at e2;rw[e1,e2])
 by_cases c:q∣k-dl n p q u j
 .rw[aB (b.mpr c).symm,aB c,ak (fun z=>ab ⟨z,c⟩)];rfl
 .rw[ak (fun z=>c (b.mp z.symm)),ak c]
  by_cases d:q∣k-j
  .rw[aB (a.mpr d).symm,aB d];rfl
  .rw[ak (fun z=>d (a.mp z.symm)),ak d];rfl
end
theorem pQ.ex {n:Nat}(hn:1<=n)(hp:Parts n ps):∃l,pQ n ps l:=by
 have key:∀qs:List (Int×Int),(∀x∈qs,x∈ps)->∃l:List ((Int×Int)×Int),l.map Prod.fst=qs/\∀z∈l,((n:Int)/z.1.2*z.2-1)%z.1.2=0:=by
  intro qs
  induction qs with
  | nil=>intro _;exact⟨[],Z,ke⟩
  | cons x r ih =>
   intro h;obtain⟨l,e,hl⟩:=ih fun y hy=>h y (List.mem_cons_of_mem _ hy);have hx:=h x av;obtain⟨v,v1,v2,hv⟩:=KH hp hx;obtain⟨_,_,_,_,q2,_⟩:=zcs hp hx;refine⟨(x,v)::l,by rw[c5,e],fun z hz=>?_⟩;rcases List.mem_cons.mp hz with w | w
   .rw[w];exact Ks q2 hv
   .exact hl z w
 obtain⟨l,e,hl⟩:=key ps fun _ h=>h;exact⟨l,hn,hp,e,hl⟩
def Kp (l:List ((Int×Int)×Int))(k:Int):Prop:=∀z∈l,¬top z.1.1 z.1.2 z.2 k=z.1.1-1
instance (l:List ((Int×Int)×Int))(k:Int):Decidable (Kp l k):=by unfold Kp;infer_instance
def hs (n:Nat):List Int:=(List.range n).map fun (i:Nat)=>(i:Int)
theorem Ob (n:Nat):(hs n).length=n:=by simp[hs]
theorem N7 {n:Nat}{k:Int}:k∈hs n↔0<=k/\k<n:=by
 unfold hs;constructor
 .intro h;obtain⟨i,hi,e⟩:=List.mem_map.mp h;have:=eD.mp hi;lia
 .intro h;exact dR.mpr ⟨k.toNat,eD.mpr J,J⟩
def pF (n:Nat)(l:List ((Int×Int)×Int)):List Int:=(hs n).filter fun k=>decide (Kp l k)
theorem wm {n:Nat}{l:List ((Int×Int)×Int)}{k:Int}:k∈pF n l↔(0<=k/\k<n)/\Kp l k:=by
 unfold pF;rw[iH,N7,fW]
theorem sT (n:Nat)(l:List ((Int×Int)×Int)):(pF n l).length<=n:=bQ (List.length_filter_le _ _) (iX (Ob n))
theorem JZ {n:Nat}(hp:Parts n ps){x:Int×Int}(hx:x∈ps){u v:Int}(hu:((n:Int)/x.2*u-1)%x.2=0)(hv:((n:Int)/x.2*v-1)%x.2=0)(k:Int):k*u%x.2=k*v%x.2:=by
 obtain⟨_,_,_,_,q2,_⟩:=zcs hp hx;exact Rs.Ab (Rs.ug hp hx) (zcr J hu) (zcr J hv) ziZ
theorem Mb (F:Int->Int)(a:Nat):∀b:Nat,zab (a+b) F=zab a F+zab b (fun i=>F (a+i))
 | 0=>by show zab a F=zab a F+0;lia
 | b+1=>by
  show zab (a+b) F+F ((a+b:Nat):Int)=zab a F+(zab b (fun i=>F (a+i))+F (a+b))
  rw[Mb F a b,iL];lia
theorem Gz {st:Nat}(ub:0<st){s:Int}(s0:0<=s)(s1:s<st)(G:Int->Int):∀p:Nat,zab (p*st) (fun k=>if (k-s)%st=0 then G k else 0)=zab p (fun t=>G (s+t*st))
 | 0=>by rw[Nat.zero_mul];rfl
 | p+1=>by
  rw[gZ,Mb,Gz ub s0 s1 G p];show _=zab p (fun t=>G (s+t*st))+G (s+p*st)
  congr 1;have e:zab st (fun i=>if (((p*st:Nat):Int)+i-s)%st=0 then G (((p*st:Nat):Int)+i) else 0)=zab st (fun i=>if i=s then G (((p*st:Nat):Int)+i) else 0):=zad fun i hi=>by
   have em:(((p*st:Nat):Int)+(i:Int)-s)%st=((i:Int)-s)%st:=by
    rw[aP,show (p:Int)*st+i-s=(i-s)+st*p by rw[aC];lia,dE]
   rw[em]
   by_cases c:(i:Int)=s
   .rw[aB c,aB (by rw[c,cC];rfl)]
   .rw[ak c,ak];intro z;obtain⟨d,hd⟩:=Int.dvd_of_emod_eq_zero z;have d0:d=0:=by
     rcases Int.lt_trichotomy d 0 with g | g | g
     .have:=ay (show d<=-1 by lia) (show 0<=(st:Int) by lia);lia
     .exact g
     .have:=ay (show 1<=d by lia) (show 0<=(st:Int) by lia);lia
    rw[d0,bw] at hd;lia
  rw[e,Ld.Cb (G:=fun i=>G (((p*st:Nat):Int)+i)) s0,aB s1,aP,Int.add_comm]
theorem pQ.Qj {n:Nat}{ps:List (Int×Int)}{l:List ((Int×Int)×Int)}(h:pQ n ps l){j:Int}(hj:Kp l j){p st:Nat}(hp:((p:Nat):Int)∈ps.map Prod.fst)(ub:0<st)(e:n=p*st){s:Int}(s0:0<=s)(s1:s<st):zab p (fun t=>V l j (s+t*st))=0:=by
 rw[<-Gz ub s0 s1 (V l j) p,<-e];have n1:=h.n1;have p0:0<p:=by rcases Nat.eq_zero_or_pos p with z | z;(rw[z,Nat.zero_mul] at e;lia);exact z
 have Cp:(n:Int)/p=st:=by rw[e,aP];exact aG _ J
 have JV:zbb n (zbc n ((p:Int),s,1)):=fun x y exy=>by
  unfold zbc;show (if (x-s)%((n:Int)/p)=0 then (1:Int) else 0)=if (y-s)%((n:Int)/p)=0 then 1 else 0
  rw[Cp];have d:(st:Int)∣n:=⟨p,by rw[e,aP,aC]⟩;have:x%st=y%st:=by rw[<-bf x d,exy,bf y d]
  rw[eZ,this,<-eZ]
 have k:=h.yO (è:=[((p:Int),s,1)]) (fun t ht=>by rw[bF.mp ht];exact hp) j;have er:zbn n [((p:Int),s,1)]=zbc n ((p:Int),s,1):=funext fun x=>by unfold zbn;simp
 rw[er,h.wsum JV hj] at k;refine Eq.trans (zad (G:=fun k=>zbc n ((p:Int),s,1) k*V l j k) fun i _=>?_) k;unfold zbc;show _=(if ((i:Int)-s)%((n:Int)/p)=0 then (1:Int) else 0)*V l j i
 rw[Cp]
 by_cases c:((i:Int)-s)%st=0
 .rw[aB c,aB c,cY]
 .rw[ak c,ak c,bn]
theorem RO (n:Nat)(p q u:Int)(f:Int->Int)(m k:Int):E n p q u (fun x=>f x*m) k=E n p q u f k*m:=by unfold E;dsimp only;rw[Int.sub_mul]
theorem L9 (n:Nat)(m:Int):∀(l:List ((Int×Int)×Int))(f:Int->Int)(k:Int),R n l (fun x=>f x*m) k=R n l f k*m
 | [],f,k=>rfl
 | z::l,f,k=>by
  simp only[R];have:E n z.1.1 z.1.2 z.2 (fun x=>f x*m)=fun x=>E n z.1.1 z.1.2 z.2 f x*m:=funext fun x=>RO n _ _ _ f m x;rw[this,L9 n m l]
def Zn (n:Nat)(l:List ((Int×Int)×Int))(f:Int->Int):Prop:=∀x,R n l f x=0
end Rt
open Rt renaming pF→zaz, pQ→zcd, Kp→zce, xu→zcn, sT→zdb
namespace Rx
open Lt
open Mx
theorem Ra {s a b W:Int}(h1:s∣a*W)(h2:s∣b*W):s∣zbq a b*W:=by
 have h:=jX h1 h2;rw[Int.gcd_mul_right,aP] at h;unfold zbq;rcases Int.natAbs_eq W with e | e
 .rw[e];exact h
 .rw[e,fY];exact(eM).mpr h
structure Gc (é:List (List Int))(i:Nat)(c:Int):Prop where
 nn:0<=c
 dv:∀j,j<i->c∣g (é.getD j []) 0
 of:∀s W:Int,(∀j,j<i->s∣g (é.getD j []) 0*W)->s∣c*W
theorem Gc.start (é:List (List Int)):Gc é 0 0:=⟨dj 0,fun j hj=>by lia,fun s W _=>by rw[bn];exact bq s⟩
theorem Gc.step {é:List (List Int)}{i:Nat}{c:Int}(h:Gc é i c):Gc é (i+1) (zbq c (g (é.getD i []) 0)):=by
 refine⟨Eh.Hv ..,fun j hj=>?_,fun s W hs=>?_⟩
 .rcases Nat.lt_succ_iff_lt_or_eq.mp hj with z | z
  .exact bJ (Int.gcd_dvd_left ..) (h.dv j z)
  .rw[z];exact Int.gcd_dvd_right ..
 .exact Ra (h.of s W fun j hj=>hs j J) (hs i J)
end Rx
namespace Rs
theorem Oj {a b d:Int}(h:zbq a b=1)(d1:1<=d)(da:d∣a)(db:d∣b):d=1:=by
 have e:=jX da db;unfold zbq at h;rw[h] at e;have:=aW O e;lia
end Rs
namespace Ct
variable {n:Nat}{l:List ((Int×Int)×Int)}{a W:List Int}{bs:List (List Int)}{ps:List (Int×Int)}
open Rt
open Lt
def kr (n:Nat)(l:List ((Int×Int)×Int))(a:List Int):List Int:=(pF n l).map fun h=>R n l (zae a) h
theorem tZ:(kr n l a).length=(pF n l).length:=aa ..
theorem N3 {c:Nat}(hc:c<(pF n l).length):g (kr n l a) c=R n l (zae a) (g (pF n l) c) :=
 zbk (by unfold kr;rw[List.getElem?_map,zcl hc];rfl)
theorem RK {c:Nat}(hc:c<(pF n l).length):(0<=g (pF n l) c/\g (pF n l) c<n)/\Kp l (g (pF n l) c):=wm.mp (zbd hc)
def Pi (a:List Int)(bs:List (List Int))(cs:List Int)(i:Nat):Int->Int:=fun x=>zae a x+zab i fun j=>g cs j.toNat*zae (bs.getD j.toNat []) x
theorem ZV (n:Nat)(l:List ((Int×Int)×Int))(F:Int->Int->Int)(x:Int):∀m:Nat,R n l (fun y=>zab m fun j=>F j y) x=zab m fun j=>R n l (F j) x
 | 0=>xV n l (fun _=>Z) x
 | m+1=>by
  have e:(fun y=>zab (m+1) fun j=>F j y)=fun y=>(zab m fun j=>F j y)+F m y:=funext fun y=>Z;rw[e,yH,ZV n l F x m];rfl
theorem Q5 {cs:List Int}{i:Nat}(x:Int):R n l (Pi a bs cs i) x=R n l (zae a) x+zab i fun j=>g cs j.toNat*R n l (zae (bs.getD j.toNat [])) x:=by
 unfold Pi;rw[yH,ZV n l (fun j y=>g cs j.toNat*zae (bs.getD j.toNat []) y)];congr 1;refine zad fun j _=>?_;have e:(fun y=>g cs (j:Int).toNat*zae (bs.getD (j:Int).toNat []) y)=fun y=>zae (bs.getD (j:Int).toNat []) y*g cs (j:Int).toNat:=funext fun y=>aC ..;rw[e,L9,aC]
theorem Le (h:pQ n ps l)(n1:1<=n){f:Int->Int}(hf:zbb n f)(z:∀c,c<(pF n l).length->R n l f (g (pF n l) c)=0):Zn n l f:=fun x=>by
 have JV:zbb n (R n l f):=LW (fun z hz=>h.pc hz) hf;rw[<-JV.md];have x0:=aE x (show (n:Int)≠0 by lia);have x1:=aA x (show 0<(n:Int) by lia)
 by_cases k:Kp l (x%n)
 .obtain⟨c,hc,e⟩:=List.getElem_of_mem (wm.mpr ⟨⟨x0,x1⟩,k⟩);have:=z c hc;rwa [zbk (az hc),e] at this
 .have ⟨z',hz,tz⟩:∃z∈l,top z.1.1 z.1.2 z.2 (x%n)=z.1.1-1:=aY fun no=>k fun z hz tz=>no ⟨z,hz,tz⟩;exact h.drop hz f _ tz
theorem way (h:pQ n ps l)(n1:1<=n)(la:a.length=n)(lb:∀b∈bs,b.length=n){cs:List Int}
 (hw:zcm (pF n l).length (bs.map (kr n l)) (zal (kr n l a) (-1)) cs):Zn n l (Pi a bs cs bs.length):=by
  refine Le h n1 ?_ fun c hc=>?_
  · intro x y e
    unfold Pi;rw[zcw la x y e];congr 1;refine zad fun j hj=>?_;rw[zcw (lb _ (by rw[ae];exact zbm hj)) x y e]
  · rw[Q5]
    have e:=hw c hc;rw[aa] at e;have e2:g (zal (kr n l a) (-1)) c=-R n l (zae a) (g (pF n l) c):=zbk (by
      unfold zal;rw[af,zcl (by rw[tZ];exact hc),N3 hc];exact cU some (jY _))
    rw[e2] at e;have e3:(zab bs.length fun j=>g cs j.toNat*g ((bs.map (kr n l)).getD j.toNat []) c)=zab bs.length fun j=>g cs j.toNat*R n l (zae (bs.getD j.toNat [])) (g (pF n l) c):=zad fun j hj=>by
      rw[ae,ao,af,zbz hj,jZ,jR,N3 hc]
    rw[<-e3,e];lia
def aw (n:Nat)(l:List ((Int×Int)×Int))(W:List Int)(i:Nat):Int->Int:=fun k=>zab i fun c=>V l (g (pF n l) c.toNat) k*g W c.toNat
theorem Hy (h:pQ n ps l)(la:a.length=n)(lW:W.length=(pF n l).length):(zab n fun k=>zae a k*aw n l W (pF n l).length k)=zao (kr n l a) W:=by
 rw[Rx.pE tZ lW];have e:(zab n fun k=>zae a k*aw n l W (pF n l).length k)=zab n fun k=>zab (pF n l).length fun c=>zae a k*V l (g (pF n l) c.toNat) k*g W c.toNat:=zad fun k _=>by
  unfold aw;rw[<-zaj];exact zad fun c _=>(aK ..).symm
 rw[e,zbf];refine zad fun c hc=>?_;rw[ae,zcg,N3 hc,h.wsum (zcw la) (RK hc).2]
theorem Lz (h:pQ n ps l){p st:Nat}(hp:((p:Nat):Int)∈ps.map Prod.fst)(ub:0<st)(e:n=p*st){s:Int}(s0:0<=s)(s1:s<st):zab p (fun t=>aw n l W (pF n l).length (s+t*st))=0:=by
 unfold aw;rw[zbf];have z:(zab (pF n l).length fun c=>zab p fun t=>V l (g (pF n l) c.toNat) (s+t*st)*g W c.toNat)=zab (pF n l).length fun _=>0:=zad fun c hc=>by
  rw[ae,zcg,h.Qj (RK hc).2 hp ub e s0 s1,bn]
 rw[z,zbj]
theorem KN {v:List Int}{w:Nat}(lv:v.length=w)(lW:W.length=w):zao (zal v (-1)) W=-zao v W:=by
 have e:(fun i:Int=>-1*(g v i.toNat*g W i.toNat))=fun i:Int=>-1*(g v i.toNat*g W i.toNat):=Z;rw[Rx.pE (by unfold zal;rw[List.length_map];exact lv) lW,Rx.pE lv lW,show (-zab w fun i=>g v i.toNat*g W i.toNat)=-1*zab w fun i=>g v i.toNat*g W i.toNat by lia,<-zaj];refine zad fun i hi=>?_;rw[ae,zbk (l:=zal v (-1)) (v:=g v i * -1) (by unfold zal;rw[List.getElem?_map,zcl J];rfl),Int.mul_comm (g v i),Int.mul_assoc]
theorem bar (h:pQ n ps l)(la:a.length=n)(lb:∀b∈bs,b.length=n){s:Int}(lW:W.length=(pF n l).length)
 (hb:zcc (bs.map (kr n l)) (zal (kr n l a) (-1)) W s){AW:List Int}(lA:AW.length=n)(ha:∀k:Nat,k<n->zae AW k=aw n l W (pF n l).length k):(∀b∈bs,s∣zao b AW)/\¬s∣zao a AW:=by
  have key:∀{b:List Int},b.length=n->zao b AW=zao (kr n l b) W:=fun {b} l'=>by
    rw[<-Hy h l' lW,Rx.pE l' lA];refine zad fun k hk=>?_;rw[ae,<-ha k hk,<-zch (zcl (show k<b.length by lia)),<-zch (zcl (show k<AW.length by lia))]
  refine⟨fun b hm=>?_,fun d=>hb.2 ?_⟩
  · obtain⟨j,hj,e⟩:=List.getElem_of_mem hm
    have z:=hb.1 j (by rw[aa];exact hj);rw[ao,af,az hj,jZ,jR,e] at z;rw[key (lb b hm)];exact z
  · rw[KN tZ lW,<-key la]
    exact eM.mpr d
theorem M4:(List.range 10).all (fun k=>Rx.Tz k (2^34) (2^216))=true:=by decide +kernel
theorem Qd {n:Nat}{l:List ((Int×Int)×Int)}{W:List Int}{i M:Nat}(h:i<=60)(hb:∀c,c<i->(g W c).natAbs<2^M)(k:Int):(aw n l W i k).natAbs<2^(M+6):=by
 unfold aw;have b:=Mx.yo (k:=i) (F:=fun c=>V l (g (pF n l) c.toNat) k*g W c.toNat) (B:=((2^M:Nat):Int)) fun c hc=>by
  rw[ae,aR];have:=hb c hc;have v:(V l (g (pF n l) c) k).natAbs<=1:=by rcases ww l (g (pF n l) c) k with z | z | z<;>rw[z]<;>decide
  have:=dr v (eJ this);rw[Nat.one_mul] at this;exact Int.ofNat_le.mpr this
 rw[<-aP] at b;have b':=Int.ofNat_le.mp b;have p:0<2^M:=Nat.two_pow_pos M;have e:2^(M+6)=2^M*64:=by rw[h8]
 have:=cJ (2^M) h;rw[e];lia
theorem A3 {n:Nat}{ps:List (Int×Int)}{l:List ((Int×Int)×Int)}(h:pQ n ps l)(n2:n<=420){a:List Int}{B:Nat}(ha:∀x∈a,x.natAbs<=B):∀z∈kr n l a,z.natAbs<=2^8*B:=fun z hz=>by
 unfold kr at hz;obtain⟨k,_,rfl⟩:=List.mem_map.mp hz;refine bQ (RF (fun k=>Ld.Qv (B:=B) ha k) k) (cJ _ (bU O ?_));have:=yP h.hp n2;rw[<-h.map,aa] at this;exact this
end Ct
open Ct renaming kr→zbl
namespace L2
open PySem PySem.Spec PyProof.Rows PySem.W
def QM (ç:Str)(a:Addr):HO:=.ext fun h=>h.CodeRec (.ref a) ç
def yn (P:Addr)(pos:Pos)(ç:Str)(H:Hp):Prop :=
 H P=some (.tbl #[])\/∃c:Addr,H P=some (.tbl #[rawInt pos.line,rawInt pos.col,.ref c])/\H c=some (QM ç c)
def AJ (P:Addr)(H H':Hp):Prop:=∀b o,b≠P->H b=some o->H' b=some o
theorem AJ.of {P:Addr}{H H':Hp}(h:kD H H'):AJ P H H':=fun b o _ e=>h b o e
theorem AJ.trans {P:Addr}{H H1 H2:Hp}(a:AJ P H H1)(b:AJ P H1 H2):AJ P H H2:=fun c o n e=>b c o n (a c o n e)
theorem yn.same {P:Addr}{pos:Pos}{ç:Str}{H H':Hp}(l:yn P pos ç H)(h:kD H H'):yn P pos ç H':=by
 rcases l with l | ⟨c,l1,l2⟩
 .exact .inl (h _ _ l)
 .exact .inr ⟨c,h _ _ l1,h _ _ l2⟩
theorem yn.ne {P a:Addr}{pos:Pos}{ç:Str}{H:Hp}{xs:List V}(l:yn P pos ç H)(h:H a=some (.lst xs)):a≠P:=fun e=>by
 subst e;rcases l with l | ⟨c,l,_⟩<;>· rw[h] at l;cases l
structure Xz (mg:Str->Option Value)(base:Heap)(c P:Addr):Prop where
 code:CodeHd base c P
 blt:base.BuiltinsAt mg P
 ng:mainGlobals≠P
section
variable {H:Hp}{l a P:Addr}{ç:Str}{pos:Pos}{e:Expr}
theorem yn.tab {P:Addr}{pos:Pos}{ç:Str}{H:Hp}(l:yn P pos ç H):∃ps,H P=some (.tbl ps):=by
 rcases l with l | ⟨_,l,_⟩
 .exact⟨_,l⟩
 .exact⟨_,l⟩
theorem AJ.seq {K:zdg}{P a:Addr}{H H':Hp}{xs:List V}(e:AJ P H H')(l:∃ps,H P=some (.tbl ps))(h:kR K H a xs):kR K H' a xs:=by
 obtain⟨ps,l⟩:=l;have ne:∀o,H a=some o->o≠.tbl ps->a≠P:=fun o e1 n z=>by
  subst z;rw[e1] at l;exact n (bL l)
 rcases h with (h | ⟨o,h⟩) | h
 .exact .inl (.inl (e _ _ (ne _ h (fun z=>nomatch z)) h))
 .exact .inl (.inr ⟨o,e _ _ (ne _ h (fun z=>nomatch z)) h⟩)
 .exact .inr h
end
theorem Ig {K:zdg}{a:Addr}{xs:List V}{g:TG}{tc:TT}{te:TE}{mw:St}{H:Hp}{Q:VK}(Pv:Nat->List V->Hp->Prop)(h0:Pv 0 [] H)(hl:∀i ys H,i<=xs.length->Pv i ys H->lX K H a xs)(hz:∀i ys H,i<xs.length->Pv i ys H->ys.length<sizeLine)
  (hs:∀i x ys H,xs[i]?=some x->Pv i ys H->g x mw H fun n8 H2=>tc n8 H2 fun b H3=>if b=true then te n8 H3 fun y H4=>Pv (i+1) (ys++[y]) H4 else Pv (i+1) ys H3)(hd:∀ys H,Pv xs.length ys H->∀D,H D=none->Q (.ref D) (upd H D (.lst ys))) :
  oh (Wa K a) g tc te mw Q H:=by
 refine⟨fun i m ys H=>m=xs.length-i/\i<=xs.length/\Pv i ys H,⟨xs.length,ke,Nat.zero_le _,h0⟩,?_⟩;rintro i m ys H ⟨rfl,hi,p⟩;have q:=hl i ys H hi p
 by_cases qy:i<xs.length
 .refine .inr ⟨⟨xs,xs[i],q,by simp[qy]⟩,hz i ys H qy p,Pv (i+1),fun OG H' p'=>⟨xs.length-(i+1),kg,Z,qy,p'⟩,fun x H' y=>?_⟩;obtain⟨e,y⟩:=y;subst e;exact hs i x ys _ (y xs q) p
 .have e:i=xs.length:=kg;subst e;exact .inl ⟨⟨xs,q,aH _⟩,hd ys H p⟩
structure Lb (K:zdg)(mg:Str->Option Value)(base:Heap)(x:Str)(cc tT:Addr):Prop where
 kb:K.In base
 nb:base.Ns mainGlobals mg
 tb:tabIn K x=some (cc,tT)
 lb:Xz mg base cc tT
theorem AJ.free {T:Addr}{H H':Hp}(e:AJ T H H')(t:∃ps,H' T=some (.tbl ps)){l:Addr}(h:H' l=none):H l=none:=by
 cases q:H l with
 | none=>rfl
 | some o =>
  have ne:l≠T:=fun z=>by obtain⟨ps,t⟩:=t;rw[<-z,h] at t;cases t
  rw[e l o ne q] at h;cases h
theorem AJ.lst {T:Addr}{H H':Hp}{r:Addr}{xs:List V}(e:AJ T H H')(t:∃ps,H T=some (.tbl ps))(h:H r=some (.lst xs)):H' r=some (.lst xs):=by
 obtain⟨ps,t⟩:=t;exact e _ _ (fun z=>by rw[z,t] at h;cases h) h
theorem AJ.same {T:Addr}{H H1 H2:Hp}(a:AJ T H H1)(b:kD H1 H2):AJ T H H2:=a.trans (.of b)
theorem AJ.upd {T:Addr}{H H':Hp}{r:Addr}{o:HO}(e:AJ T H H')(h:H r=none):AJ T H (upd H' r o):=fun b u n q=>by rw[kO (kP q h)];exact e b u n q
theorem yn.upd {T r:Addr}{pos:Pos}{ç:Str}{H:Hp}{xs ys:List V}(l:yn T pos ç H)(h:H r=some (.lst xs)):yn T pos ç (upd H r (.lst ys)):=by
 rcases l with l | ⟨c,l1,l2⟩
 .exact .inl (by rw[kO (fun z=>by rw[<-z,l] at h;cases h)];exact l)
 .refine .inr ⟨c,by rw[kO (fun z=>by rw[<-z,l1] at h;cases h)];exact l1,?_⟩;rw[kO (fun z=>by rw[<-z,l2] at h;cases h)];exact l2
end L2
namespace K40
variable {l:PySem.W.OpenLaw}
open PySem L2
def top (i:Nat):Stmt:=PySem.Challenge.pw_evenhub_k40_no_counterweights.main.body.getD i (.Pass ⟨0,0,0,0⟩)
abbrev y7:Stmt:=top 15
theorem DM:kL ["one","other","great","small","left"] ["one","other"] (kG y7):=⟨Z,Z,Z,kd,Z,kd,kd⟩
abbrev Ex:Stmt:=top 16
theorem GC:kL ["one","other"] ["one","other"] (kG Ex):=⟨Z,Z,Z,kd,Z,kd,kd⟩
abbrev Bb:Stmt:=top 17
theorem FJ:kL ["one","other","bits","rests","counts","turn"] ["one","other","bits"] (kG Bb):=⟨Z,Z,Z,kd,Z,kd,kd⟩
abbrev vI:Stmt:=top 18
theorem z8:kL ["pair","turn"] ["pair","turn"] (kG vI):=⟨Z,Z,Z,kd,Z,kd,kd⟩
abbrev vz:Stmt:=top 19
theorem Ax:kL ["rests","bits","length","behind","turn"] ["rests","bits"] (kG vz):=⟨Z,Z,Z,kd,Z,kd,kd⟩
abbrev vB:Stmt:=top 20
theorem zT:kL ["rest","later_rest","turn","many","new_rest","further","doubt"] ["rest","later_rest"] (kG vB):=⟨Z,Z,Z,kd,Z,kd,kd⟩
abbrev Ja:Stmt:=top 22
theorem Lc:kL ["n","hole","weight","outcome"] ["n","hole","weight"] (kG Ja):=⟨Z,Z,Z,kd,Z,kd,kd⟩
abbrev GQ:Stmt:=top 23
theorem Lu:kL ["one","other"] ["one","other"] (kG GQ):=⟨Z,Z,Z,kd,Z,kd,kd⟩
abbrev vN:Stmt:=top 24
theorem rJ:kL ["one","other"] ["one","other"] (kG vN):=⟨Z,Z,Z,kd,Z,kd,kd⟩
abbrev Bw:Stmt:=top 25
theorem FD:kL ["load","many"] ["load","many"] (kG Bw):=⟨Z,Z,Z,kd,Z,kd,kd⟩
abbrev EB:Stmt:=top 27
theorem Ik:kL ["n","found","left","p","q"] ["n"] (kG EB):=⟨Z,Z,Z,kd,Z,kd,kd⟩
abbrev tq:Stmt:=top 28
theorem wK:kL ["n","p","q"] ["n","p"] (kG tq):=⟨Z,Z,Z,kd,Z,kd,kd⟩
abbrev IN:Stmt:=top 29
theorem J8:kL ["step","n","told"] ["step","n"] (kG IN):=⟨Z,Z,Z,kd,Z,kd,kd⟩
abbrev xm:Stmt:=top 31
theorem BM:kL ["load","p","hole","many","place"] ["load","p","hole","many"] (kG xm):=⟨Z,Z,Z,kd,Z,kd,kd⟩
abbrev uj:Stmt:=top 32
theorem yy:kL ["n","p","hole","step"] ["n","p","hole"] (kG uj):=⟨Z,Z,Z,kd,Z,kd,kd⟩
abbrev Eg:Stmt:=top 34
theorem IV:kL ["n","q","hole"] ["n","q","hole"] (kG Eg):=⟨Z,Z,Z,kd,Z,kd,kd⟩
abbrev y6:Stmt:=top 35
theorem CJ:kL ["n","hole"] ["n","hole"] (kG y6):=⟨Z,Z,Z,kd,Z,kd,kd⟩
abbrev rP:Stmt:=top 36
theorem uY:kL ["p","q"] ["p","q"] (kG rP):=⟨Z,Z,Z,kd,Z,kd,kd⟩
abbrev HP:Stmt:=top 37
theorem K7:kL ["n"] ["n"] (kG HP):=⟨Z,Z,Z,kd,Z,kd,kd⟩
abbrev HV:Stmt:=top 38
theorem J6:kL ["load","n","left","rows","p","q","hole","many"] ["load"] (kG HV):=⟨Z,Z,Z,kd,Z,kd,kd⟩
abbrev zx:Stmt:=top 39
theorem DK:kL ["n","p","q","lead"] ["n","p","q"] (kG zx):=⟨Z,Z,Z,kd,Z,kd,kd⟩
abbrev zv:Stmt:=top 41
theorem De:kL ["load","weights"] ["load","weights"] (kG zv):=⟨Z,Z,Z,kd,Z,kd,kd⟩
abbrev wV:Stmt:=top 42
theorem BL:kL ["n","hole","outcome","p","q","factors","lead"] ["n","hole"] (kG wV):=⟨Z,Z,Z,kd,Z,kd,kd⟩
abbrev rV:Stmt:=top 43
theorem vd:kL ["p","q","kept_share","step","factors"] ["p","q","kept_share"] (kG rV):=⟨Z,Z,Z,kd,Z,kd,kd⟩
abbrev EY:Stmt:=top 44
theorem Hx:kL ["load","told","hole","weight"] ["load"] (kG EY):=⟨Z,Z,Z,kd,Z,kd,kd⟩
abbrev Ce:Stmt:=top 47
theorem FO:kL ["things","places"] ["things","places"] (kG Ce):=⟨Z,Z,Z,kd,Z,kd,kd⟩
abbrev BJ:Stmt:=top 48
theorem Ft:kL ["size","places","numbers","outcome","place","number"] ["size","places","numbers"] (kG BJ):=⟨Z,Z,Z,kd,Z,kd,kd⟩
abbrev zy:Stmt:=top 49
theorem CM:kL ["rows"] ["rows"] (kG zy):=⟨Z,Z,Z,kd,Z,kd,kd⟩
abbrev vO:Stmt:=top 50
theorem Ap:kL ["rows","column"] ["rows","column"] (kG vO):=⟨Z,Z,Z,kd,Z,kd,kd⟩
abbrev zc:Stmt:=top 51
theorem Dd:kL ["steps","prime","found","number","step","left","column"] ["steps","prime"] (kG zc):=⟨Z,Z,Z,kd,Z,kd,kd⟩
abbrev yM:Stmt:=top 52
theorem Cv:kL ["step","found","prime","left","number","column","row"] ["step","found","prime"] (kG yM):=⟨Z,Z,Z,kd,Z,kd,kd⟩
abbrev sC:Stmt:=top 53
theorem vY:kL ["row","column","number"] ["row"] (kG sC):=⟨Z,Z,Z,kd,Z,kd,kd⟩
abbrev xh:Stmt:=top 54
theorem AY:kL ["row","many","other","modulus"] ["row","many","other","modulus"] (kG xh):=⟨Z,Z,Z,kd,Z,kd,kd⟩
abbrev s9:Stmt:=top 55
theorem wT:kL ["row","many","modulus"] ["row","many","modulus"] (kG s9):=⟨Z,Z,Z,kd,Z,kd,kd⟩
abbrev tf:Stmt:=top 56
theorem wR:kL ["rows","modulus","size","left","column","lead"] ["rows","modulus"] (kG tf):=⟨Z,Z,Z,kd,Z,kd,kd⟩
abbrev B9:Stmt:=top 57
theorem FR:kL ["rows","undoing","modulus","goal","rests","told","left","scale","many","count","more"] ["rows","undoing","modulus","goal"] (kG B9):=⟨Z,Z,Z,kd,Z,kd,kd⟩
abbrev tM:Stmt:=top 58
theorem wZ:kL ["rows","goal","told"] ["rows","goal","told"] (kG tM):=⟨Z,Z,Z,kd,Z,kd,kd⟩
abbrev vM:Stmt:=top 59
theorem AB:kL ["rests","scale","bits","bottom","number"] ["rests","scale"] (kG vM):=⟨Z,Z,Z,kd,Z,kd,kd⟩
abbrev sx:Stmt:=top 60
theorem vU:kL ["number","scale","bits"] ["number","scale","bits"] (kG sx):=⟨Z,Z,Z,kd,Z,kd,kd⟩
abbrev zB:Stmt:=top 61
theorem DJ:kL ["number","scale","rest"] ["number","scale"] (kG zB):=⟨Z,Z,Z,kd,Z,kd,kd⟩
abbrev Ef:Stmt:=top 64
theorem Jp:kL ["steps","goal","prime","told"] ["steps","goal"] (kG Ef):=⟨Z,Z,Z,kd,Z,kd,kd⟩
abbrev uq:Stmt:=top 65
theorem yt:kL ["number","found"] ["number"] (kG uq):=⟨Z,Z,Z,kd,Z,kd,kd⟩
abbrev xr:Stmt:=top 66
theorem Be:kL ["steps","goal","told"] ["steps","goal","told"] (kG xr):=⟨Z,Z,Z,kd,Z,kd,kd⟩
abbrev BQ:Stmt:=top 67
theorem Fg:kL ["steps","counts","size","outcome","step","many"] ["steps","counts","size"] (kG BQ):=⟨Z,Z,Z,kd,Z,kd,kd⟩
abbrev qP:Stmt:=top 68
theorem uo:kL ["steps","bar","number","step"] ["steps","bar"] (kG qP):=⟨Z,Z,Z,kd,Z,kd,kd⟩
abbrev yI:Stmt:=top 69
theorem DH:kL ["modulus","number"] ["modulus","number"] (kG yI):=⟨Z,Z,Z,kd,Z,kd,kd⟩
abbrev BR:Stmt:=top 70
theorem FT:kL ["steps","goal","prime","frame","column","told","weights"] ["steps","goal","prime"] (kG BR):=⟨Z,Z,Z,kd,Z,kd,kd⟩
abbrev rS:Stmt:=top 71
theorem vp:kL ["steps","frame","goal_made","others","told","number"] ["steps","frame","goal_made"] (kG rS):=⟨Z,Z,Z,kd,Z,kd,kd⟩
abbrev tH:Stmt:=top 72
theorem xc:kL ["others","steps","frame","goal_made","modulus","number","made","rows","goal","leads","left","column","lead","taken","spared","counts"] ["others","steps","frame","goal_made"] (kG tH):=⟨Z,Z,Z,kd,Z,kd,kd⟩
abbrev sH:Stmt:=top 73
theorem vS:kL ["made","modulus"] ["made","modulus"] (kG sH):=⟨Z,Z,Z,kd,Z,kd,kd⟩
abbrev wU:Stmt:=top 74
theorem BP:kL ["rows","size","modulus","leads","number","row"] ["rows","size","modulus"] (kG wU):=⟨Z,Z,Z,kd,Z,kd,kd⟩
abbrev zu:Stmt:=top 75
theorem Cu:kL ["leads","row","modulus","outcome","left","column","lead","told","many"] ["leads","row","modulus"] (kG zu):=⟨Z,Z,Z,kd,Z,kd,kd⟩
abbrev EV:Stmt:=top 76
theorem Iv:kL ["one","many","other","more","modulus"] ["one","many","other","more","modulus"] (kG EV):=⟨Z,Z,Z,kd,Z,kd,kd⟩
abbrev zo:Stmt:=top 77
theorem CP:kL ["leads","column","modulus","amounts","place","lead","later"] ["leads","column","modulus"] (kG zo):=⟨Z,Z,Z,kd,Z,kd,kd⟩
abbrev vG:Stmt:=top 78
theorem Ao:kL ["frame","amounts","told"] ["frame","amounts"] (kG vG):=⟨Z,Z,Z,kd,Z,kd,kd⟩
abbrev yU:Stmt:=top 81
theorem xM:kL ["load","blocks","block","n","holes","told"] ["load","blocks"] (kG yU):=⟨Z,Z,Z,kd,Z,kd,kd⟩
abbrev vx:Stmt:=top 82
theorem zO:kL ["load","holes","left"] ["load","holes"] (kG vx):=⟨Z,Z,Z,kd,Z,kd,kd⟩
abbrev rZ:Stmt:=top 83
theorem uQ:kL ["n","holes","weights","outcome","hole","many"] ["n","holes","weights"] (kG rZ):=⟨Z,Z,Z,kd,Z,kd,kd⟩
abbrev tJ:Stmt:=top 85
theorem wH:kL ["script","k"] ["script","k"] (kG tJ):=⟨Z,Z,Z,kd,Z,kd,kd⟩
abbrev vD:Stmt:=top 86
theorem zV:kL ["found"] ["found"] (kG vD):=⟨Z,Z,Z,kd,Z,kd,kd⟩
abbrev tD:Stmt:=top 87
theorem xa:kL ["found","many"] ["found","many"] (kG tD):=⟨Z,Z,Z,kd,Z,kd,kd⟩
abbrev yN:Stmt:=top 88
theorem C7:kL ["row","weights","total","one","many"] ["row","weights"] (kG yN):=⟨Z,Z,Z,kd,Z,kd,kd⟩
abbrev B5:Stmt:=top 89
theorem FP:kL ["number","modulus"] ["number","modulus"] (kG B5):=⟨Z,Z,Z,kd,Z,kd,kd⟩
abbrev uM:Stmt:=top 90
theorem yD:kL ["n","found","p"] ["n"] (kG uM):=⟨Z,Z,Z,kd,Z,kd,kd⟩
abbrev xn:Stmt:=top 91
theorem B2:kL ["n","rows","load","p","hole","many","k","at"] ["n","rows"] (kG xn):=⟨Z,Z,Z,kd,Z,kd,kd⟩
abbrev tF:Stmt:=top 92
theorem wF:kL ["found","n","row"] ["found","n"] (kG tF):=⟨Z,Z,Z,kd,Z,kd,kd⟩
abbrev xC:Stmt:=top 93
theorem BO:kL ["load","told"] ["load"] (kG xC):=⟨Z,Z,Z,kd,Z,kd,kd⟩
abbrev yQ:Stmt:=top 94
theorem Dr:kL ["found","load","blocks","n","p","hole","block"] ["found","load","blocks"] (kG yQ):=⟨Z,Z,Z,kd,Z,kd,kd⟩
abbrev tN:Stmt:=top 95
theorem wP:kL ["load","blocks","told","other","e"] ["load","blocks"] (kG tN):=⟨Z,Z,Z,kd,Z,kd,kd⟩
abbrev oS:Stmt:=top 96
theorem rG:kL ["load","blocks","sure","e"] ["load","blocks"] (kG oS):=⟨Z,Z,Z,kd,Z,kd,kd⟩
abbrev qS:Stmt:=top 97
theorem uJ:kL ["n","cell","size"] ["n","cell"] (kG qS):=⟨Z,Z,Z,kd,Z,kd,kd⟩
abbrev IY:Stmt:=top 98
theorem GK:kL ["script","n","load","k","at","blocks","due","found"] ["script"] (kG IY):=⟨Z,Z,Z,kd,Z,kd,kd⟩
abbrev uD:Stmt:=inClass (top 46) 0
theorem tE:kL ["self","steps","size","prime"] ["self","steps","size","prime"] (kG uD):=⟨Z,Z,Z,kd,Z,kd,kd⟩
abbrev sw:Stmt:=inClass (top 46) 1
theorem rW:kL ["self","goal"] ["self","goal"] (kG sw):=⟨Z,Z,Z,kd,Z,kd,kd⟩
abbrev sM:Stmt:=inClass (top 46) 2
theorem rX:kL ["self","goal"] ["self","goal"] (kG sM):=⟨Z,Z,Z,kd,Z,kd,kd⟩
abbrev rR:Stmt:=inClass (top 46) 3
theorem qV:kL ["self","amounts","told"] ["self","amounts"] (kG rR):=⟨Z,Z,Z,kd,Z,kd,kd⟩
structure Txt (K:zdg)(mg:Str->Option Value)(CF:Addr)(cN:Nat->Nat):Prop where
 g_LEAD_BITS:mg "LEAD_BITS"=some (.int 128 (cN 12))
 g_FIRST_PRIME:mg "FIRST_PRIME"=some (.int 1000000007 (cN 13))
 g_MOST_HOLES_COUNTERED:mg "MOST_HOLES_COUNTERED"=some (.int 60 (cN 14))
 c_Frame:mg "Frame"=some (.ref CF)
 c_HubError:mg "HubError"=some (.ref (cN 0))
 c_NoFit:mg "NoFit"=some (.ref (cN 1))
 c_TooWide:mg "TooWide"=some (.ref (cN 2))
 c_NoHole:mg "NoHole"=some (.ref (cN 3))
 c_NoName:mg "NoName"=some (.ref (cN 4))
 c_NoNumber:mg "NoNumber"=some (.ref (cN 5))
 c_NoQuotient:mg "NoQuotient"=some (.ref (cN 6))
 c_NoRing:mg "NoRing"=some (.ref (cN 7))
 c_NoRow:mg "NoRow"=some (.ref (cN 8))
 c_NoText:mg "NoText"=some (.ref (cN 9))
 c_NoTurn:mg "NoTurn"=some (.ref (cN 10))
 c_NoWheel:mg "NoWheel"=some (.ref (cN 11))
 x_NoFit:PySem.W.excIn K (cN 1) [.type "ValueError",.type "Exception",.type "BaseException",.type "object"] "ValueError.__new__"=true
 e_NoFit:yh K (cN 1)
 m_NoFit_HubError:PySem.W.exmOne K (.ref (cN 1)) (.ref (cN 0))=some true
 i_NoFit_ValueError:PySem.W.kitOne K (.ref (cN 1)) (.type "ValueError")=some true
 x_TooWide:PySem.W.excIn K (cN 2) [.type "ValueError",.type "Exception",.type "BaseException",.type "object"] "ValueError.__new__"=true
 e_TooWide:yh K (cN 2)
 m_TooWide_HubError:PySem.W.exmOne K (.ref (cN 2)) (.ref (cN 0))=some true
 i_TooWide_ValueError:PySem.W.kitOne K (.ref (cN 2)) (.type "ValueError")=some true
 m_NoFit_NoFit:PySem.W.exmOne K (.ref (cN 1)) (.ref (cN 1))=some true
 m_TooWide_NoFit:PySem.W.exmOne K (.ref (cN 2)) (.ref (cN 1))=some false
 m_TooWide_TooWide:PySem.W.exmOne K (.ref (cN 2)) (.ref (cN 2))=some true
 j_1:PySem.W.kitAny K (.ref (cN 1)) [.ref (cN 3),.ref (cN 4),.ref (cN 5),.ref (cN 6),.ref (cN 7)]=some false
 j_2:PySem.W.kitAny K (.ref (cN 1)) [.ref (cN 8),.ref (cN 9),.ref (cN 10),.ref (cN 11),.ref (cN 2)]=some false
 j_3:PySem.W.kitAny K (.ref (cN 2)) [.ref (cN 1),.ref (cN 3),.ref (cN 4),.ref (cN 5),.ref (cN 6),.ref (cN 7)]=some false
 j_4:PySem.W.kitAny K (.ref (cN 2)) [.ref (cN 8),.ref (cN 9),.ref (cN 10),.ref (cN 11)]=some false
 d_divisor:Dn K mg "divisor" y7 ["one","other"]
 d_joint:Dn K mg "joint" Ex ["one","other"]
 d_euclid:Dn K mg "euclid" Bb ["one","other","bits"]
 d_turned_on:Dn K mg "turned_on" vI ["pair","turn"]
 d_next_turn:Dn K mg "next_turn" vz ["rests","bits"]
 d_sure_turn:Dn K mg "sure_turn" vB ["rest","later_rest"]
 d_hung:Dn K mg "hung" Ja ["n","hole","weight"]
 d_plus:Dn K mg "plus" GQ ["one","other"]
 d_check_fit:Dn K mg "check_fit" vN ["one","other"]
 d_scaled:Dn K mg "scaled" Bw ["load","many"]
 d_parts:Dn K mg "parts" EB ["n"]
 d_prime_power:Dn K mg "prime_power" tq ["n","p"]
 d_back:Dn K mg "back" IN ["step","n"]
 d_lay_ring:Dn K mg "lay_ring" xm ["load","p","hole","many"]
 d_ring_holes:Dn K mg "ring_holes" uj ["n","p","hole"]
 d_share:Dn K mg "share" Eg ["n","q","hole"]
 d_is_kept:Dn K mg "is_kept" y6 ["n","hole"]
 d_first_dropped:Dn K mg "first_dropped" rP ["p","q"]
 d_kept:Dn K mg "kept" HP ["n"]
 d_rest:Dn K mg "rest" HV ["load"]
 d_dropped:Dn K mg "dropped" zx ["n","p","q"]
 d_weighed:Dn K mg "weighed" zv ["load","weights"]
 d_weighing:Dn K mg "weighing" wV ["n","hole"]
 d_part_weighing:Dn K mg "part_weighing" rV ["p","q","kept_share"]
 d_paper:Dn K mg "paper" EY ["load"]
 d_picked:Dn K mg "picked" Ce ["things","places"]
 d_spread:Dn K mg "spread" BJ ["size","places","numbers"]
 d_flipped:Dn K mg "flipped" zy ["rows"]
 d_column_of:Dn K mg "column_of" vO ["rows","column"]
 d_corners:Dn K mg "corners" zc ["steps","prime"]
 d_cleared:Dn K mg "cleared" yM ["step","found","prime"]
 d_first_filled:Dn K mg "first_filled" sC ["row"]
 d_lessened:Dn K mg "lessened" xh ["row","many","other","modulus"]
 d_taken_times:Dn K mg "taken_times" s9 ["row","many","modulus"]
 d_undone_rows:Dn K mg "undone_rows" tf ["rows","modulus"]
 d_solved:Dn K mg "solved" B9 ["rows","undoing","modulus","goal"]
 d_is_solution:Dn K mg "is_solution" tM ["rows","goal","told"]
 d_fractions:Dn K mg "fractions" vM ["rests","scale"]
 d_least_bottom:Dn K mg "least_bottom" sx ["number","scale","bits"]
 d_centred:Dn K mg "centred" zB ["number","scale"]
 d_reach:Dn K mg "reach" Ef ["steps","goal"]
 d_next_prime:Dn K mg "next_prime" uq ["number"]
 d_is_shown:Dn K mg "is_shown" xr ["steps","goal","told"]
 d_summed:Dn K mg "summed" BQ ["steps","counts","size"]
 d_first_unbarred:Dn K mg "first_unbarred" qP ["steps","bar"]
 d_divides:Dn K mg "divides" yI ["modulus","number"]
 d_sought:Dn K mg "sought" BR ["steps","goal","prime"]
 d_sought_within:Dn K mg "sought_within" rS ["steps","frame","goal_made"]
 d_sought_with:Dn K mg "sought_with" tH ["others","steps","frame","goal_made"]
 d_whole_counts:Dn K mg "whole_counts" sH ["made","modulus"]
 d_leads_of:Dn K mg "leads_of" wU ["rows","size","modulus"]
 d_entered:Dn K mg "entered" zu ["leads","row","modulus"]
 d_mixed:Dn K mg "mixed" EV ["one","many","other","more","modulus"]
 d_barring:Dn K mg "barring" zo ["leads","column","modulus"]
 d_inner_bar:Dn K mg "inner_bar" vG ["frame","amounts"]
 d_counter:Dn K mg "counter" yU ["load","blocks"]
 d_kept_rest:Dn K mg "kept_rest" vx ["load","holes"]
 d_all_weighings:Dn K mg "all_weighings" rZ ["n","holes","weights"]
 d_law_cell_at:Dn K mg "_law_cell_at" tJ ["script","k"]
 d_law_whole:Dn K mg "_law_whole" vD ["found"]
 d_law_numbers:Dn K mg "_law_numbers" tD ["found","many"]
 d_law_sum:Dn K mg "_law_sum" yN ["row","weights"]
 d_law_by:Dn K mg "_law_by" B5 ["number","modulus"]
 d_law_primes:Dn K mg "_law_primes" uM ["n"]
 d_law_laid:Dn K mg "_law_laid" xn ["n","rows"]
 d_law_rows_of:Dn K mg "_law_rows_of" tF ["found","n"]
 d_law_even:Dn K mg "_law_even" xC ["load"]
 d_law_bar:Dn K mg "_law_bar" yQ ["found","load","blocks"]
 d_law_refusal:Dn K mg "_law_refusal" tN ["load","blocks"]
 d_law_refused_by_base:Dn K mg "_law_refused_by_base" oS ["load","blocks"]
 d_law_other_size:Dn K mg "_law_other_size" qS ["n","cell"]
 cl_Frame:Gp K CF
 na_size:oH K CF "size"
 na_prime:oH K CF "prime"
 na_found:oH K CF "found"
 na_chosen:oH K CF "chosen"
 na_columns:oH K CF "columns"
 na_rows:oH K CF "rows"
 na_modulus:oH K CF "modulus"
 na_undoing:oH K CF "undoing"
 m_Frame_init:Kn K mg CF "Frame" "Frame.__init__" uD ["self","steps","size","prime"]
 m_Frame_missed:Mn K CF "missed" "Frame.missed" sw ["self","goal"]
 m_Frame_counts:Mn K CF "counts" "Frame.counts" sM ["self","goal"]
 m_Frame_weights:Mn K CF "weights" "Frame.weights" rR ["self","amounts"]
 b_len:mg "len"=none
 b_isinstance:mg "isinstance"=none
 b_int:mg "int"=none
 b_bool:mg "bool"=none
 b_list:mg "list"=none
 b_tuple:mg "tuple"=none
 b_range:mg "range"=none
 b_min:mg "min"=none
 b_max:mg "max"=none
 b_abs:mg "abs"=none
 b_zip:mg "zip"=none
 b_all:mg "all"=none
 b_enumerate:mg "enumerate"=none
 b_sum:mg "sum"=none
 b_ValueError:mg "ValueError"=none
section
variable {r:Addr}{as:List Addr}{l:List Int}{m:Int}{è:List (List Int)}
variable {CF:Addr}{cN:Nat->Nat}{P:Program}{w:World}{K:zdg}{mg:Str->Option Value}{base:Heap}
inductive Ey (K:zdg)(vs:List V)(H:Hp)(Q:VK)(_:XK):Prop
 | mk (a:Addr)(ns:List Int)(_:vs=[.ref a])(_:kR K H a (ns.map zaa))(_:ns.length<=63)(_:∀H',Q (.bl true) H')
inductive NV (vs:List V)(H:Hp)(Q:VK)(_:XK):Prop
 | mk (m:Nat)(h w:Int)(_:vs=[.int m,.int h,.int w])(_:1<=m)(_:m<=420)(_:∀r H',kD H H'->H r=none->H' r=some (.lst ((Ld.Ol m h w).map zaa))->Q (.ref r) H')
theorem wx (T:Txt K mg CF cN):Df P w K mg base 1 "hung" ["n","hole","weight"] NV:=by
 refine mf T.d_hung Lc fun f cdv A outer s H vs Q E hr nd h=>?_;obtain⟨m,x,v,rfl,m1,m2,q⟩:=h;refine⟨_,(kh (kU 3 nd (kK pJ (mF (lJ ks)) (pv 0))) (kh (pY (pv 2) (pZ (pv 3) (kK lO (pv 1) (pv 0)) set_list)) (ky (kM (pv 3))))),?_⟩;refine⟨kC,fun l hl=>⟨_,Z,l,_,_,Z,Z,ko,kg,kg,(by show 1*_<=_;exact n5 kg),fun p hp=>?_⟩⟩;have lp:l≠p:=kP ko hp;have YO:H p=none:=by rwa [kO (cM lp)] at hp
 rw[rep0];refine⟨_,Z,_,Z,_,Z,_,Z,_,_,Z,Z,kg,p,_,_,_,Z,Z,ko,At (xk ke) kg x,?_⟩;refine⟨_,Z,q p _ (lI (lI (lI (kD.refl H) hl) YO) YO) YO ?_⟩;rw[ko,set_int];rfl
inductive QB (K:zdg)(vs:List V)(H:Hp)(Q:VK)(_:XK):Prop
 | mk (a b:Addr)(xs ys:List V)(_:vs=[.ref a,.ref b])(_:kR K H a xs)(_:kR K H b ys)(_:xs.length=ys.length)(_:Q .non H)
theorem uE (T:Txt K mg CF cN):Df P w K mg base 1 "check_fit" ["one","other"] (QB K):=by
 refine mf T.d_check_fit rJ fun f cdv A outer s H vs Q E hr nd h=>?_;obtain⟨a,b,xs,ys,rfl,ha,hb,e,q⟩:=h;refine⟨_,(ky (mh (mC oN (oG T.b_len (pv 0)) (oG T.b_len (pv 1))) (ky xt) k9)),?_⟩;refine⟨_,Z,a,_,Z,.inl ha,_,Z,b,_,Z,.inl hb,Z,_,Z,?_⟩;refine nw (fun c=>?_) (fun c=>q);exact Mr c (by rw[e])
inductive K5 (vs:List V)(H:Hp)(Q:VK)(_:XK):Prop
 | mk (r1 r2:Addr)(x y a b c d:Int)(N:Nat)(_:vs=[.ref r1,.ref r2])(_:H r1=some (.tup [.int x,.int y]))(_:H r2=some (.tup [.int a,.int b,.int c,.int d]))(_:N<=9000)(_:x.natAbs<2^N/\y.natAbs<2^N/\a.natAbs<2^N/\b.natAbs<2^N/\c.natAbs<2^N/\d.natAbs<2^N)(_:∀t,H t=none->Q (.ref t) (upd H t (.tup [.int (a*x+b*y),.int (c*x+d*y)])))
theorem ut (T:Txt K mg CF cN):Df P w K mg base 1 "turned_on" ["pair","turn"] K5:=by
 refine mf T.d_turned_on z8 fun f cdv A outer s H vs Q E hr nd h=>?_;obtain⟨r1,r2,x,y,a,b,c,d,N,rfl,h1,h2,hN,⟨fx,fy,fa,fb,fc,fd'⟩,q⟩:=h;have p0:m9 [zaa x,zaa y] 0=some (.int x):=Z;have p1:m9 [zaa x,zaa y] 1=some (.int y):=Z;have t0:m9 [zaa a,zaa b,zaa c,zaa d] 0=some (.int a):=Z;have t1:m9 [zaa a,zaa b,zaa c,zaa d] 1=some (.int b):=Z;have t2:m9 [zaa a,zaa b,zaa c,zaa d] 2=some (.int c):=Z;have t3:m9 [zaa a,zaa b,zaa c,zaa d] 3=some (.int d):=Z;refine⟨_,(ky (kM (mE (kZ (kK lU (kK lL (k7 kT (pv 1) ks) (k7 kT (pv 0) ks)) (kK lL (k7 kT (pv 1) ks) (k7 kT (pv 0) ks))) (kK lU (kK lL (k7 kT (pv 1) ks) (k7 kT (pv 0) ks)) (kK lL (k7 kT (pv 1) ks) (k7 kT (pv 0) ks))))))),?_⟩;refine⟨_,Z,r2,_,_,_,Z,Z,lX.of h2,t0,_,Z,r1,_,_,_,Z,Z,lX.of h1,p0,_,_,Z,Z,si fa fx J,_,Z,r2,_,_,_,Z,Z,lX.of h2,t1,_,Z,r1,_,_,_,Z,Z,lX.of h1,p1,_,_,Z,Z,si fb fy J,_,_,Z,Z,?_⟩;exact⟨_,Z,r2,_,_,_,Z,Z,lX.of h2,t2,_,Z,r1,_,_,_,Z,Z,lX.of h1,p0,_,_,Z,Z,si fc fx J,_,Z,r2,_,_,_,Z,Z,lX.of h2,t3,_,Z,r1,_,_,_,Z,Z,lX.of h1,p1,_,_,Z,Z,si fd' fy J,_,_,Z,Z,kq,q⟩
theorem t7 {i j:Int}{N:Nat}(h0:0<j)(h:j.natAbs<2^N)(hN:N<=9000):Hi i j:=by
 refine⟨h0,?_⟩;have:=(iC (show j.natAbs≠0 by lia)).mpr h;lia
theorem Gx {u v d:Int}(h:d=if (if v<0 then -v else v) > (if u<0 then -u else u) then (if v<0 then -v else v) else (if u<0 then -u else u)):(u.natAbs:Int)<=d/\(v.natAbs:Int)<=d:=by
 have hv:(if v<0 then -v else v)=v.natAbs:=by split<;>lia
 have hu:(if u<0 then -u else u)=u.natAbs:=by split<;>lia
 rw[hv,hu] at h;split at h<;>lia
inductive Nt (vs:List V)(H:Hp)(Q:VK)(_:XK):Prop
 | mk (A B:Int)(h N:Nat)(_:vs=[.int (A/2^h),.int (B/2^h)])(_:0<=A)(_:0<B)(_:1<=N)(_:N<=9000)(_:A<2^N)(_:B<2^N)(_:∀t H' (x y z w:Int),kD H H'->H' t=some (.tup [.int x,.int y,.int z,.int w])->Eb.Tn A B x y z w->((x=1/\y=0/\z=0/\w=1)\/2^h<=z*A+w*B)->(x.natAbs<2^N/\y.natAbs<2^N/\z.natAbs<2^N/\w.natAbs<2^N)->Q (.ref t) H')
theorem z9 (T:Txt K mg CF cN):Df P w K mg base 1 "sure_turn" ["rest","later_rest"] Nt:=by
 refine mf T.d_sure_turn zT fun f cdv A outer s H vs Q E hr nd h=>?_;obtain⟨A0,B0,hh,N,rfl,a0,b0,N1,N2,fA,fB,q⟩:=h;obtain⟨HH,Ub⟩:∃HH:Int,HH=2^hh:=⟨_,Z⟩;obtain⟨W,hW⟩:∃W:Nat,W=2^N:=⟨_,Z⟩;have H1:1<=HH:=by rw[Ub];exact f7 O
 have W2:2<=W:=by rw[hW];exact bU (n:=2) O N1
 have fA':A0<W:=by rw[hW];exact_mod_cast fA
 have fB':B0<W:=by rw[hW];exact_mod_cast fB
 rw[<-Ub];have eA:A0=A0/HH*HH+A0%HH:=by have:=bP A0 HH;rw[aC] at this;lia
 have eB:B0=B0/HH*HH+B0%HH:=by have:=bP B0 HH;rw[aC] at this;lia
 have mA0:=aE A0 (show HH≠0 by lia);have mA1:=aA A0 (show 0<HH by lia);have mB0:=aE B0 (show HH≠0 by lia);have mB1:=aA B0 (show 0<HH by lia);have da0:=cK a0 (show 0<=HH by lia);have db0:=cK (show 0<=B0 by lia) (show 0<=HH by lia);have da1:=b8 (a:=A0) HH a0;have db1:=b8 (a:=B0) HH J;generalize A0/HH=a at *;generalize B0/HH=b at *;refine⟨_,(kh (kU 2 nd (mE (ki ks (ki ks (ki ks (ki ks kS)))))) (kh (nW aJ (mC oN (pv 1) ks) (kh (kU 3 nd (kK lE (pv 0) (pv 1))) (kh (kU 4 nd (kK nV (pv 0) (kK lL (pv 3) (pv 1)))) (kh (kU 5 nd (mE (ki (k7 kT (pv 2) ks) (ki (k7 kT (pv 2) ks) (ki (kK nV (k7 kT (pv 2) ks) (kK lL (pv 3) (k7 kT (pv 2) ks))) (ki (kK nV (k7 kT (pv 2) ks) (kK lL (pv 3) (k7 kT (pv 2) ks))) kS)))))) (kh (kU 6 nd (lH (zd Z) kf T.b_max L2.Jo (kZ (lH qa kf T.b_abs zcx (lJ (k7 kT (pv 5) ks))) (lH qa kf T.b_abs zcx (lJ (k7 kT (pv 5) ks)))))) (kh (mh (PW.pt (pL (mC EJ (pv 4) (pv 6)) (rq (mC EJ (kK nV (pv 1) (pv 4)) (kK lU (pv 6) (lH (zd Z) kf T.b_max L2.Jo (kZ (lH qa kf T.b_abs zcx (lJ (k7 kT (pv 2) ks))) (lH qa kf T.b_abs zcx (lJ (k7 kT (pv 2) ks)))))))))) (ky (kM (pv 2))) k9) (kh (kU 2 nd (pv 5)) (kh (kU 0 nd (pv 1)) (ky (kU 1 nd (pv 4))))))))))) (ky (kM (pv 2))))),?_⟩;refine⟨kN,fun t0 LG=>?_⟩;have rL:kD H (upd H t0 (.tup [zaa 1,zaa 0,zaa 0,zaa 1])):=ku (kD.refl _) LG;have h0:upd H t0 (.tup [zaa 1,zaa 0,zaa 0,zaa 1]) t0=some (.tup [zaa 1,zaa 0,zaa 0,zaa 1]):=ko;generalize upd H t0 (.tup [zaa 1,zaa 0,zaa 0,zaa 1])=HA at rL h0 ⊢;refine⟨fun m σ H'=>kD H H'/\∃(ta:Addr)(rest í x y z w:Int)(o1 o2 o3 o4:Option V),σ=[some (.int rest),some (.int í),some (.ref ta),o1,o2,o3,o4]/\H' ta=some (.tup [.int x,.int y,.int z,.int w])/\rest=x*a+y*b/\í=z*a+w*b/\0<=rest/\0<=í/\rest<W/\í<W/\Eb.Tn A0 B0 x y z w/\0<z*A0+w*B0/\((x=1/\y=0/\z=0/\w=1)\/HH<=z*A0+w*B0)/\(x.natAbs<W/\y.natAbs<W/\z.natAbs<W/\w.natAbs<W)/\m=í.toNat,
  ⟨_,rL,t0,a,b,1,0,0,1,none,none,none,none,Z,h0,J,J,da0,db0,J,J,.one,J,.inl ⟨Z,Z,Z,Z⟩,⟨J,J,J,J⟩,Z⟩,?_⟩
 rintro m σ H' ⟨sm,ta,rest,í,x,y,z,w,o1,o2,o3,o4,rfl,hT,e1,e2,r0,l0,r1,l1,tn,L0,big,⟨fx,fy,fz,fw⟩,rfl⟩;have i0:m9 [zaa x,zaa y,zaa z,zaa w] 0=some (.int x):=Z;have i1:m9 [zaa x,zaa y,zaa z,zaa w] 1=some (.int y):=Z;have i2:m9 [zaa x,zaa y,zaa z,zaa w] 2=some (.int z):=Z;have i3:m9 [zaa x,zaa y,zaa z,zaa w] 3=some (.int w):=Z;have out:Q (.ref ta) H':=q ta H' x y z w sm hT tn (by rw[<-Ub];exact big) (by rw[<-hW];exact⟨fx,fy,fz,fw⟩);refine⟨_,Z,Z,_,Z,nw (fun c=>?_) (fun c=>⟨_,Z,out⟩)⟩;have lp:0<í:=by have:=Mr c;lia
 obtain⟨qq,hq⟩:∃qq:Int,qq=rest/í:=⟨_,Z⟩;have q0:0<=qq:=by rw[hq];exact cK r0 J
 have qle:qq<=rest:=by rw[hq];exact b8 _ r0
 have md:=bP rest í;have mn0:=aE rest (show í≠0 by lia);have mn1:=aA rest lp;rw[<-hq,aC] at md;have qW:qq.natAbs<2^N:=by rw[<-hW];lia
 have lW:í.natAbs<2^N:=by rw[<-hW];lia
 have zW:z.natAbs<2^N:=by rw[<-hW];exact fz
 have wW:w.natAbs<2^N:=by rw[<-hW];exact fw
 refine⟨_,fun _ _ h=>h,?_⟩;refine⟨_,Z,_,Z,_,_,Z,Z,t7 lp lW N2,?_⟩;dsimp only;rw[<-hq]
 try dsimp only[mM,qK,qL]
 refine⟨_,Z,_,Z,_,Z,_,_,Z,Z,si qW lW J,_,_,Z,Z,?_⟩;dsimp only;obtain⟨nr,hnr⟩:∃nr:Int,nr=rest-qq*í:=⟨_,Z⟩;rw[<-hnr];have nr0:0<=nr:=J;have nr1:nr<í:=J
 try dsimp only[mM,qK,qL]
 refine⟨_,Z,ta,_,_,_,Z,Z,lX.of hT,i2,_,Z,ta,_,_,_,Z,Z,lX.of hT,i3,_,Z,ta,_,_,_,Z,Z,lX.of hT,i0,_,Z,_,Z,ta,_,_,_,Z,Z,lX.of hT,i2,_,_,Z,Z,si qW zW J,_,_,Z,Z,?_⟩;refine⟨_,Z,ta,_,_,_,Z,Z,lX.of hT,i1,_,Z,_,Z,ta,_,_,_,Z,Z,lX.of hT,i3,_,_,Z,Z,si qW wW J,_,_,Z,Z,kN,fun fu hfu=>?_⟩;have JW:kD H' (upd H' fu (.tup [zaa z,zaa w,zaa (x-qq*z),zaa (y-qq*w)])):=ku (kD.refl _) hfu;have hF:upd H' fu (.tup [zaa z,zaa w,zaa (x-qq*z),zaa (y-qq*w)]) fu=some (.tup [zaa z,zaa w,zaa (x-qq*z),zaa (y-qq*w)]):=ko;generalize upd H' fu (.tup [zaa z,zaa w,zaa (x-qq*z),zaa (y-qq*w)])=HB at JW hF ⊢
 try dsimp only[mM,qK,qL]
 have YQ:=JW _ _ hT;have Sm:Q (.ref ta) HB:=q ta HB x y z w (sm.trans JW) YQ tn (by rw[<-Ub];exact big) (by rw[<-hW];exact⟨fx,fy,fz,fw⟩);have en:nr=(x-qq*z)*a+(y-qq*w)*b:=by rw[hnr,e1,e2];grind
 obtain⟨x',DR⟩:∃x':Int,x'=x-qq*z:=⟨_,Z⟩;obtain⟨y',DQ⟩:∃y':Int,y'=y-qq*w:=⟨_,Z⟩;rw[<-DR,<-DQ] at hF en;have j2:m9 [zaa z,zaa w,zaa x',zaa y'] 2=some (.int x'):=Z;have j3:m9 [zaa z,zaa w,zaa x',zaa y'] 3=some (.int y'):=Z;refine⟨_,Z,fu,_,_,_,Z,Z,lX.of hF,j2,_,Z,_,Z,fu,_,_,_,Z,Z,lX.of hF,j3,_,Z,_,_,Z,?_⟩
 try dsimp only[mM,qK,qL]
 obtain⟨d,hd⟩:∃d:Int,d=(if (if y'<0 then -y' else y') > (if x'<0 then -x' else x') then (if y'<0 then -y' else y') else (if x'<0 then -x' else x')):=⟨_,Z⟩;rw[<-hd];have dd:=Gx hd;refine⟨_,Z,_,Z,_,_,Z,Z,_,Z,nw (fun c1=>⟨_,Z,Sm⟩) (fun c1=>?_)⟩;have n1:=uR c1;refine⟨_,Z,_,Z,_,_,Z,Z,_,Z,_,Z,ta,_,_,_,Z,Z,lX.of YQ,i2,_,Z,_,Z,ta,_,_,_,Z,Z,lX.of YQ,i3,_,Z,_,_,Z,_,_,Z,Z,_,_,Z,Z,_,Z,nw (fun c2=>⟨_,Z,Sm⟩) (fun c2=>?_)⟩;have n2:=uR c2;obtain⟨d',Pk⟩:∃d':Int,d'=(if (if w<0 then -w else w) > (if z<0 then -z else z) then (if w<0 then -w else w) else (if z<0 then -z else z)):=⟨_,Z⟩;rw[<-Pk] at n2;have dd':=Gx Pk;have su:=Eb.sure H1 eA eB mA0 mA1 mB0 mB1 tn q0 L0 (d:=d) (d':=d') (by rw[<-DR];exact dd.1) (by rw[<-DQ];exact dd.2) dd'.1 dd'.2 (by rw[<-DR,<-DQ,<-en];lia) (by rw[<-DR,<-DQ,<-en,<-e2];lia);rw[<-DR,<-DQ] at su;refine⟨_,Z,?_⟩;refine⟨_,Z,?_⟩;refine⟨_,Z,?_⟩;exact⟨nr.toNat,J,sm.trans JW,fu,í,nr,z,w,x',y',_,_,_,_,Z,hF,e2,en,l0,nr0,l1,J,su.1,J,.inr su.2,⟨fz,fw,J,J⟩,Z⟩
theorem IC {B æ:Int}(b0:0<=B)(h0:0<=æ)(h:uH B > æ):2^æ.toNat<=B:=by
 rcases Int.lt_or_le B (2^æ.toNat) with c | c
 .exfalso;have e:((2^æ.toNat:Nat):Int)=2^æ.toNat:=by rw[dW];rfl
  have:B.natAbs<2^æ.toNat:=J;have:=PyProof.Rows.intBits_le this;unfold uH at h;lia
 .exact c
theorem K3 {A B x y z w:Int}(h:Eb.Tn A B x y z w)(ne:¬(x=1/\y=0/\z=0/\w=1)):z*A+w*B<x*A+y*B:=by
 cases h with
 | one=>exact absurd ⟨Z,Z,Z,Z⟩ ne
 | step q h _ _ lt _=>exact lt
inductive Li (vs:List V)(H:Hp)(Q:VK)(_:XK):Prop
 | mk (r:Addr)(A B æ:Int)(N:Nat)(_:vs=[.ref r,.int æ])(_:H r=some (.tup [.int A,.int B]))(_:0<=A)(_:0<B)(_:0<=æ)(_:uH B > æ)(_:1<=N)(_:N<=9000)(_:A<2^N)(_:B<2^N)(_:∀t H' (x y z w:Int),kD H H'->H' t=some (.tup [.int x,.int y,.int z,.int w])->Eb.Tn A B x y z w->z*A+w*B<B->2^æ.toNat<=x*A+y*B->(x.natAbs<2^N/\y.natAbs<2^N/\z.natAbs<2^N/\w.natAbs<2^N)->Q (.ref t) H')
theorem Af (T:Txt K mg CF cN):Df P w K mg base 2 "next_turn" ["rests","bits"] Li:=by
 refine mf T.d_next_turn Ax fun f cdv A outer s H vs Q E hr nd h=>?_;obtain⟨r,A0,B0,æ,N,rfl,hR,a0,b0,bi0,big,N1,N2,fA,fB,q⟩:=h;have i0:m9 [zaa A0,zaa B0] 0=some (.int A0):=Z;have i1:m9 [zaa A0,zaa B0] 1=some (.int B0):=Z;have bge:=IC J bi0 big;have eN:((2^N:Nat):Int)=2^N:=by rw[dW];rfl
 have N2':2<=2^N:=bU (n:=2) O N1;have single:∀H1:Hp,kD H H1->∀t,H1 t=none->Q (.ref t) (upd H1 t (.tup [zaa 0,zaa 1,zaa 1,zaa (-(A0/B0))])):=fun H1 sm t ht=>by
  have q0:0<=A0/B0:=cK a0 J;have q1:A0/B0<=A0:=b8 _ a0;have md:=bP A0 B0;have m0:=aE A0 (show B0≠0 by lia);have m1:=aA A0 b0;have e3:1*A0 + -(A0/B0)*B0=A0%B0:=by rw[jq,aC (A0/B0)];lia
  have tn:Eb.Tn A0 B0 0 1 1 (-(A0/B0)):=by
   have:=Eb.Tn.step (A:=A0) (B:=B0) (A0/B0) .one J (by rw[show (1-A0/B0*0)*A0+(0-A0/B0*1)*B0=1*A0 + -(A0/B0)*B0 by grind,e3];exact m0) (by rw[show (1-A0/B0*0)*A0+(0-A0/B0*1)*B0=1*A0 + -(A0/B0)*B0 by grind,e3];lia) q0;rwa [show 1-A0/B0*0=1 by lia,show 0-A0/B0*1=-(A0/B0) by lia] at this
  exact q t _ 0 1 1 (-(A0/B0)) (ku sm ht) ko tn (by rw[e3];exact m1) J ⟨J,J,J,J⟩
 refine⟨_,(kh (kU 2 nd (lH (y9 Z) kf T.b_min L2.GI (kZ (wI e9 dZ ef ux (k7 kT (pv 0) ks)) (wI e9 dZ ef ux (k7 kT (pv 0) ks))))) (kh (mh (mC tI (pv 2) (kK lU (pv 1) (lY (v:=.int 128) kf T.g_LEAD_BITS ⟨_,Z⟩))) (kh (kU 3 nd (kK nV (pv 2) (lY (v:=.int 128) kf T.g_LEAD_BITS ⟨_,Z⟩))) (kh (kU 4 nd (kW (z9 T) hr (kZ (kK IR (k7 kT (pv 0) ks) (pv 3)) (kK IR (k7 kT (pv 0) ks) (pv 3))))) (ky (mh (mC (Jn (Hs hr)) (pv 4) (mE (ki ks (ki ks (ki ks (ki ks kS)))))) (ky (kM (pv 4))) k9)))) k9) (ky (kM (mE (ki ks (ki ks (ki ks (ki (sG p7 (kK lE (k7 kT (pv 0) ks) (k7 kT (pv 0) ks))) kS))))))))),?_⟩;refine⟨_,Z,r,_,_,_,Z,Z,lX.of hR,i0,Z,_,Z,Z,_,Z,r,_,_,_,Z,Z,lX.of hR,i1,Z,_,Z,Z,_,_,Z,?_⟩;obtain⟨len,ì⟩:∃len:Int,len=(if uH B0<uH A0 then uH B0 else uH A0):=⟨_,Z⟩;rw[<-ì];refine⟨_,Z,_,Z,_,_,Z,Z,_,_,Z,Z,_,Z,?_⟩;have last:∀(σ:St)(H1:Hp),σ[0]?=some (some (.ref r))->kD H H1->iG:=fun _ _ _ _=>trivial;refine nw (fun c=>?_) (fun _=>?_)
 .have c':=dec c;refine⟨_,Z,_,_,Z,Z,?_⟩;dsimp only;obtain⟨bh,hbh⟩:∃bh:Int,bh=len-128:=⟨_,Z⟩;rw[<-hbh]
  try dsimp only[mM,qK,qL]
  refine⟨_,Z,r,_,_,_,Z,Z,lX.of hR,i0,_,Z,_,_,Z,Z,(show 0<=bh by lia),_,Z,r,_,_,_,Z,Z,lX.of hR,i1,_,Z,_,_,Z,Z,(show 0<=bh by lia),A0,B0,bh.toNat,N,Z,a0,b0,N1,N2,fA,fB,fun ta H1 x y z w mQ h1 tn ab Co=>?_⟩
  try dsimp only[mM,qK,qL]
  refine⟨_,Z,kN,fun tb Uc=>VU ((kO (kP h1 Uc)).trans h1) ko ⟨_,Z,nw (fun c2=>?_) (fun c2=>?_)⟩⟩
  .have ne:¬(x=1/\y=0/\z=0/\w=1):=fun zz=>by rw[b5 zz] at c2;cases c2
   have great:=ab.resolve_left ne;have ds:=K3 tn ne;have pw:(2:Int)^æ.toNat<=2^bh.toNat:=by
    have:=bU (n:=2) O (show æ.toNat<=bh.toNat by lia);have e1:((2^æ.toNat:Nat):Int)=2^æ.toNat:=by rw[dW];rfl
    have e2:((2^bh.toNat:Nat):Int)=2^bh.toNat:=by rw[dW];rfl
    lia
   exact⟨_,Z,q ta _ x y z w (ku mQ Uc) ((kO (kP h1 Uc)).trans h1) tn (tn.lt ne) J Co⟩
  .have MG:=ku (o:=.tup [zaa 1,zaa 0,zaa 0,zaa 1]) mQ Uc;refine⟨_,Z,r,_,_,_,Z,Z,lX.of (MG _ _ hR),i0,_,Z,r,_,_,_,Z,Z,lX.of (MG _ _ hR),i1,_,_,Z,Z,t7 b0 J N2,_,Z,kN,fun t ht=>single _ MG t ht⟩
 .exact⟨_,Z,r,_,_,_,Z,Z,lX.of hR,i0,_,Z,r,_,_,_,Z,Z,lX.of hR,i1,_,_,Z,Z,t7 b0 J N2,_,Z,kN,fun t ht=>single _ (kD.refl _) t ht⟩
theorem oR (N:Nat):((2^N:Nat):Int)=2^N:=by rw[dW];rfl
inductive Qx (vs:List V)(H:Hp)(Q:VK)(_:XK):Prop
 | mk (one other æ:Int)(N:Nat)(_:vs=[.int one,.int other,.int æ])(_:1<=one)(_:0<=other)(_:0<=æ)(_:1<=N)(_:N<=9000)(_:one<2^N)(_:other<2^N)(_:∀t H' (r0 c0 r1 c1:Int),kD H H'->H' t=some (.tup [.int r0,.int c0,.int r1,.int c1])->zdf one other r0 r1 c0 c1->1<=r0->uH r1<=æ->(r0=one\/2^æ.toNat<=r0)->(c0.natAbs:Int)<=one->Q (.ref t) H')
theorem vg (T:Txt K mg CF cN):Df P w K mg base 3 "euclid" ["one","other","bits"] Qx:=by
 refine mf T.d_euclid FJ fun f cdv A outer s H vs Q E hr nd h=>?_;obtain⟨one,other,æ,N,rfl,o1,t0,b0,N1,N2,fo,ft,q⟩:=h;have eN:=oR N;refine⟨_,(kh (kU 3 nd (mE (kZ (pv 0) (pv 1)))) (kh (kU 4 nd (mE (kZ ks ks))) (kh (nW aJ (mC tI (wI e9 dZ ef ux (k7 kT (pv 3) ks)) (pv 2)) (kh (kU 5 nd (kW (Af T) hr (kZ (pv 3) (pv 2)))) (kh (kU 3 nd (kW (ut T) hr (kZ (pv 3) (pv 5)))) (ky (kU 4 nd (kW (ut T) hr (kZ (pv 4) (pv 5)))))))) (ky (kM (mE (ki (k7 kT (pv 3) ks) (ki (k7 kT (pv 4) ks) (ki (k7 kT (pv 3) ks) (ki (k7 kT (pv 4) ks) kS)))))))))),?_⟩;refine⟨_,Z,_,Z,kq,fun ra hra=>?_⟩;refine⟨kq,fun ca Ud=>?_⟩;have rL:kD H (upd (upd H ra (.tup [.int one,.int other])) ca (.tup [.int 0,.int 1])):=ku (ku (kD.refl _) hra) Ud;have yF:upd (upd H ra (.tup [.int one,.int other])) ca (.tup [.int 0,.int 1]) ra=some (.tup [.int one,.int other]):=(kO (kP ko Ud)).trans ko;have hc0:upd (upd H ra (.tup [.int one,.int other])) ca (.tup [.int 0,.int 1]) ca=some (.tup [.int 0,.int 1]):=ko;generalize upd (upd H ra (.tup [.int one,.int other])) ca (.tup [.int 0,.int 1])=H0 at rL yF hc0 ⊢;refine⟨fun m σ H'=>kD H H'/\∃(ra ca:Addr)(r c lr lc:Int)(tv:Option V),σ=[some (.int one),some (.int other),some (.int æ),some (.ref ra),some (.ref ca),tv]/\H' ra=some (.tup [.int r,.int lr])/\H' ca=some (.tup [.int c,.int lc])/\1<=r/\r<2^N/\lr<2^N/\zdf one other r lr c lc/\(r=one\/2^æ.toNat<=r)/\(c.natAbs:Int)<=one/\m=lr.toNat,
  ⟨_,rL,ra,ca,one,0,other,1,none,Z,yF,hc0,o1,fo,ft,.start J t0,.inl Z,J,Z⟩,?_⟩
 rintro m σ H' ⟨sm,ra,ca,r,c,lr,lc,tv,rfl,hR,hC,r1,rN,lN,st,big,cb,rfl⟩;have i0:m9 [zaa r,zaa lr] 0=some (.int r):=Z;have i1:m9 [zaa r,zaa lr] 1=some (.int lr):=Z;have c0:m9 [zaa c,zaa lc] 0=some (.int c):=Z;have c1:m9 [zaa c,zaa lc] 1=some (.int lc):=Z;have l0:=st.p1;have lcb:=st.c1 J r1;refine⟨_,Z,ra,_,_,_,Z,Z,lX.of hR,i1,Z,_,Z,Z,_,Z,_,_,Z,Z,_,Z,?_⟩;refine nw (fun c'=>?_) (fun c'=>?_)
 .have gt:=dec c';have ne:=Ko (show uH lr > 0 by lia);refine⟨_,fun _ _ h=>h,?_⟩;refine⟨_,Z,_,Z,ra,r,lr,æ,N,Z,hR,J,J,b0,gt,N1,N2,rN,lN,fun ta H1 x y z w mQ h1 tn lt YR Co=>?_⟩;have ni:¬(x=1/\y=0/\z=0/\w=1):=fun ⟨a,b,d,e⟩=>by rw[d,e] at lt;lia
  have cc:=tn.c0 st J r1 ni;have MF:=tn.st st;refine⟨_,Z,_,Z,ra,ta,r,lr,x,y,z,w,N,Z,mQ _ _ hR,h1,N2,⟨J,J,Co.1,Co.2.1,Co.2.2.1,Co.2.2.2⟩,fun rb hrb=>?_⟩;have mX:kD H1 (upd H1 rb (.tup [.int (x*r+y*lr),.int (z*r+w*lr)])):=ku (kD.refl _) hrb;have h2:upd H1 rb (.tup [.int (x*r+y*lr),.int (z*r+w*lr)]) rb=some (.tup [.int (x*r+y*lr),.int (z*r+w*lr)]):=ko;generalize upd H1 rb (.tup [.int (x*r+y*lr),.int (z*r+w*lr)])=H2 at mX h2 ⊢;refine⟨_,Z,_,Z,ca,ta,c,lc,x,y,z,w,N,Z,mX _ _ (mQ _ _ hC),mX _ _ h1,N2,⟨J,J,Co.1,Co.2.1,Co.2.2.1,Co.2.2.2⟩,fun cb' hcb=>?_⟩;exact⟨(z*r+w*lr).toNat,by have:=MF.p1;lia,ku ((sm.trans mQ).trans mX) hcb,rb,cb',_,_,_,_,_,Z,ku (kD.refl _) hcb _ _ h2,ko,cc.2.1,J,J,MF,.inr YR,cc.1,Z⟩
 .have le:=uR c';refine⟨_,Z,ra,_,_,_,Z,Z,lX.of hR,i0,_,Z,ca,_,_,_,Z,Z,lX.of hC,c0,_,Z,ra,_,_,_,Z,Z,lX.of hR,i1,_,Z,ca,_,_,_,Z,Z,lX.of hC,c1,kN,fun t ht=>?_⟩;exact q t _ r c lr lc (ku sm ht) ko st r1 J big cb
inductive Ln (vs:List V)(H:Hp)(Q:VK)(_:XK):Prop
 | mk (st n:Int)(N:Nat)(_:vs=[.int st,.int n])(_:1<=n)(_:1<=N)(_:N<=9000)(_:n<2^N)(_:∀d:Int,1<=d->d∣n->d∣st->d=1)(_:∀(u:Int) H',1<=u->u<=n->n∣st*u-1->kD H H'->Q (.int u) H')
theorem Am (T:Txt K mg CF cN):Df P w K mg base 4 "back" ["step","n"] Ln:=by
 refine mf T.d_back J8 fun f cdv A outer s H vs Q E hr nd h=>?_;obtain⟨st,n,N,rfl,n1,N1,N2,fn,BF,q⟩:=h;have s0:=aE st (show n≠0 by lia);have s1:=aA st (show 0<n by lia);refine⟨_,(kh (kU 2 nd (kW (vg T) hr (ki (pv 1) (ki (kK lO (pv 0) (pv 1)) (ki ks kS))))) (kh (mh (mC oN (k7 kT (pv 2) ks) ks) (ky xt) k9) (ky (kM (kK lU (kK lO (kK nV (k7 kT (pv 2) ks) ks) (pv 1)) ks))))),?_⟩;refine⟨_,Z,_,Z,_,Z,_,_,Z,Z,(show 0<n by lia),n,st%n,0,N,Z,n1,s0,dj 0,N1,N2,fn,J,fun t H1 r0 c0 r1 c1 mQ h1 S p0 bz _ _=>?_⟩;have i0:m9 [zaa r0,zaa c0,zaa r1,zaa c1] 0=some (.int r0):=Z;have i1:m9 [zaa r0,zaa c0,zaa r1,zaa c1] 1=some (.int c0):=Z;have z:r1=0:=Bi J;have dv:=S.dvd z;have eg:r0=1:=BF r0 p0 dv.1 (by
  have a:n∣st%n-st:=zbo st n;have b:=bp dv.2 (bJ dv.1 a);rwa [show st%n-(st%n-st)=st by lia] at b)
 refine⟨_,Z,t,_,_,_,Z,Z,lX.of h1,i0,Z,_,Z,A6 (cU zaa eg) ?_⟩;rw[eg,z] at S;have o:=S.back n1;refine⟨_,Z,t,_,_,_,Z,Z,lX.of h1,i1,_,_,Z,Z,_,Z,_,_,Z,Z,(show 0<n by lia),_,_,Z,Z,?_⟩;exact q _ _ o.1 o.2.1 o.2.2 mQ
def Bd (N:Nat)(l:List Int):Prop:=∀x∈l,x.natAbs<2^N
theorem sX {a b:Int}{N M:Nat}(ha:a.natAbs<2^N)(hb:b.natAbs<2^M)(h:N<=1000000)(h':M<=1000000):IntMulOk a b:=si ha hb J
inductive Op (vs:List V)(H:Hp)(Q:VK)(_:XK):Prop
 | mk (r s:Addr)(row other:List Int)(à m:Int)(N M:Nat)(_:vs=[.ref r,.int à,.ref s,.int m])(_:H r=some (.lst (row.map zaa)))(_:H s=some (.lst (other.map zaa)))(_:row.length=other.length)(_:row.length<=20000)(_:0<m)(_:à.natAbs<2^N)(_:Bd M other)(_:N<=1000000)(_:M<=1000000)(_:∀t H',kD H H'->H' t=some (.lst ((zcp row à other m).map zaa))->Q (.ref t) H')
theorem sJ (T:Txt K mg CF cN):Df P w K mg base 1 "lessened" ["row","many","other","modulus"] Op:=by
 refine mf T.d_lessened AY fun f cdv A outer s H vs Q E hr nd h=>?_;obtain⟨r,s',row,other,à,m,N,M,rfl,h1,h2,l,lz,m0,bm,bo,N1,M1,q⟩:=h;refine⟨_,(kh (mh (mC nR (pv 1) ks) (ky (kM (pv 0))) k9) (ky (kM (om [("modulus",3),("many",1)] ["number","less"] (pH kf T.b_zip (kZ (pv 0) (pv 2))) (fun C s H fp=>⟨(uZ 2 3),lC,(kK lO (kK nV (pv 2) (kK lL (pv 1) (pv 3))) (pv 0))⟩))))),?_⟩;refine⟨_,Z,Z,_,Z,?_⟩;refine nw (fun c=>?_) (fun c=>?_)
 .have z:=vm c;exact⟨_,Z,q r H (kD.refl _) (by unfold zcp;rw[if_pos z];exact h1)⟩
 .have z:=vC c;refine⟨_,Z,_,Z,r,s',Z,⟨_,kR.of h1⟩,⟨_,kR.of h2⟩,?_⟩;refine qU (K:=K) (xs:=row.map zaa) (ys:=other.map zaa) (List.zipWith (fun x y=>(x-à*y)%m) row other) (by rw[aa,aa,l]) (by rw[dX,aa,<-l,gf]) (by rw[aa];exact lz) (kR.of h1) (kR.of h2) ?_ ?_
  .intro i x y H2 p hx hy sm hp R k;obtain⟨u,rfl,hu⟩:=int_at hx;obtain⟨v,rfl,hv⟩:=int_at hy;refine⟨p,_,Z,lX.of ko,Z,_,_,Z,_,_,Z,Z,?_⟩;refine⟨_,Z,_,Z,_,Z,_,_,Z,Z,sX bm (bo v (ah hv)) N1 M1,_,_,Z,Z,_,Z,_,_,Z,Z,m0,?_⟩;exact k _ _ (ku (kD.refl _) hp) (by rw[cm,hu,hv])
  .intro D H2 sm _ hD;refine q D H2 sm ?_;unfold zcp;rw[ak z];exact hD
inductive Oi (vs:List V)(H:Hp)(Q:VK)(_:XK):Prop
 | mk (r:Addr)(row:List Int)(à m:Int)(N M:Nat)(_:vs=[.ref r,.int à,.int m])(_:H r=some (.lst (row.map zaa)))(_:row.length<=20000)(_:0<m)(_:à.natAbs<2^N)(_:Bd M row)(_:N<=1000000)(_:M<=1000000)(_:∀t H',kD H H'->H' t=some (.lst ((row.map fun x=>x*à%m).map zaa))->Q (.ref t) H')
theorem sK (T:Txt K mg CF cN):Df P w K mg base 1 "taken_times" ["row","many","modulus"] Oi:=by
 refine mf T.d_taken_times wT fun f cdv A outer s H vs Q E hr nd h=>?_;obtain⟨r,row,à,m,N,M,rfl,h1,lz,m0,bm,bo,N1,M1,q⟩:=h;refine⟨_,(ky (kM (om [("modulus",2),("many",1)] ["number"] (lG (pv 0)) (fun C s H fp=>⟨(oM 2),lC,(kK lO (kK lL (pv 2) (pv 1)) (pv 0))⟩)))),?_⟩;refine⟨_,Z,r,Z,⟨_,kR.of h1⟩,?_⟩;refine mP (K:=K) (xs:=row.map zaa) (row.map fun x=>x*à%m) ziY (by rw[aa];exact lz) (kR.of h1) ?_ fun D H2 sm _ hD=>q D H2 sm hD;intro i x H2 hx sm R k;obtain⟨u,rfl,hu⟩:=int_at hx;refine⟨_,Z,_,Z,_,_,Z,Z,sX (bo u (ah hu)) bm M1 N1,_,Z,_,_,Z,Z,m0,?_⟩;exact k _ _ (kD.refl _) (by rw[af,hu];rfl)
def ZW (n m:Int):Int:=if 2*(n%m)<=m then n%m else n%m-m
inductive QL (vs:List V)(H:Hp)(Q:VK)(_:XK):Prop
 | mk (n m:Int)(_:vs=[.int n,.int m])(_:0<m)(_:Q (.int (ZW n m)) H)
theorem xD (T:Txt K mg CF cN):Df P w K mg base 1 "centred" ["number","scale"] QL:=by
 refine mf T.d_centred DJ fun f cdv A outer s H vs Q E hr nd h=>?_;obtain⟨n,m,rfl,m0,q⟩:=h;refine⟨_,(kh (kU 2 nd (kK lO (pv 0) (pv 1))) (ky (kM (G9 (mC EJ (kK lL ks (pv 2)) (pv 1)) (pv 2) (kK nV (pv 2) (pv 1)))))),?_⟩;refine⟨_,Z,_,Z,_,_,Z,Z,m0,?_⟩;refine⟨_,Z,_,_,Z,Z,oV O O,_,Z,_,_,Z,Z,_,Z,?_⟩;unfold ZW at q;refine nw (fun c=>?_) (fun c=>?_)
 .rw[aB (dec c)] at q;exact⟨_,Z,q⟩
 .rw[ak (uR c)] at q;exact⟨_,Z,_,Z,_,_,Z,Z,q⟩
inductive NJ (vs:List V)(H:Hp)(Q:VK)(_:XK):Prop
 | mk (r:Addr)(row:List Int)(_:vs=[.ref r])(_:H r=some (.lst (row.map zaa)))(_:row.length<=20000)(_:∀(c:Nat) H',kD H H'->c<row.length->zai row c≠0->Q (.int c) H')(_:∀H',kD H H'->(∀c,c<row.length->zai row c=0)->Q .non H')
theorem rQ (T:Txt K mg CF cN):Df P w K mg base 1 "first_filled" ["row"] NJ:=by
 refine mf T.d_first_filled vY fun f cdv A outer s H vs Q E hr nd h=>?_;obtain⟨r,row,rfl,h1,lz,q1,q2⟩:=h;refine⟨_,(kh (mD aJ Z (pR kf T.b_enumerate (lJ (pv 0))) (nI Z (kX (mT 1 nd) (kX (mT 2 nd) mS))) (ky (mh (mC oN (pv 2) ks) (ky (kM (pv 1))) k9))) (ky (kM sA))),?_⟩;refine⟨_,Z,r,Z,⟨_,kR.of h1⟩,p5 (K:=K) (xs:=row.map zaa) (fun i σ H2=>kD H H2/\(∃o1 o2:Option V,σ=[some (.ref r),o1,o2])/\∀c,c<i->zai row c=0) ⟨kD.refl _,⟨none,none,Z⟩,fun c hc=>absurd hc (bx _)⟩ (fun i σ H2 _ z=>z.1.seq (kR.of h1)) ?_ ?_⟩
 .rintro i x σ H2 p hx ⟨sm,⟨o1,o2,rfl⟩,z⟩ hp;obtain⟨v,rfl,hv⟩:=int_at hx;have gv:=zbk hv;have il:i<row.length:=(aF.mp hv).1;refine⟨p,_,Z,lX.of ko,Z,_,_,Z,_,_,Z,Z,?_⟩;refine⟨_,Z,Z,_,Z,nw (fun c=>?_) (fun c=>?_)⟩
  .exact⟨_,Z,q1 i _ (ku sm hp) il (by rw[gv];exact Mr c)⟩
  .exact⟨ku sm hp,⟨_,_,Z⟩,fun c' xW=>by
    rcases Nat.lt_succ_iff_lt_or_eq.mp xW with e | e
    .exact z c' e
    .rw[e,gv];exact FA c⟩
 .rintro σ H2 ⟨sm,_,z⟩;rw[aa] at z;exact q2 H2 sm z
inductive Qt (K:zdg)(vs:List V)(H:Hp)(Q:VK)(_:XK):Prop
 | mk (r s:Addr)(a b:List Int)(N M:Nat)(_:vs=[.ref r,.ref s])(_:kR K H r (a.map zaa))(_:kR K H s (b.map zaa))(_:a.length=b.length)(_:a.length<=20000)(_:Bd N a)(_:Bd M b)(_:N<=1000000)(_:M<=1000000)(_:∀H',kD H H'->Q (.int (zao a b)) H')
theorem p6 (T:Txt K mg CF cN):Df P w K mg base 2 "weighed" ["load","weights"] (Qt K):=by
 refine mf T.d_weighed De fun f cdv A outer s H vs Q E hr nd h=>?_;obtain⟨r,s',a,b,N,M,rfl,ha,hb,l,lz,ba,bb,N1,M1,q⟩:=h;refine⟨_,(kh (oy (kW (uE T) hr (kZ (pv 0) (pv 1)))) (ky (kM (lH (yV Z) kf T.b_sum L2.GA (lJ (om [] ["weight","number"] (pH kf T.b_zip (kZ (pv 0) (pv 1))) (fun C s H fp=>⟨(uZ 0 1),lC,(kK lL (pv 0) (pv 1))⟩))))))),?_⟩;refine⟨_,Z,_,Z,r,s',_,_,Z,ha,hb,by rw[aa,aa,l],?_⟩;refine⟨_,Z,_,Z,r,s',Z,⟨_,ha⟩,⟨_,hb⟩,?_⟩;refine qU (K:=K) (xs:=a.map zaa) (ys:=b.map zaa) (List.zipWith (· * ·) a b) (by rw[aa,aa,l]) (by rw[dX,aa,<-l,gf]) (by rw[aa];exact lz) ha hb ?_ ?_
 .intro i x y H2 p hx hy sm hp R k;obtain⟨u,rfl,hu⟩:=int_at hx;obtain⟨v,rfl,hv⟩:=int_at hy;refine⟨p,_,Z,lX.of ko,Z,_,_,Z,_,_,Z,Z,?_⟩;refine⟨_,Z,_,Z,_,_,Z,Z,sX (ba u (ah hu)) (bb v (ah hv)) N1 M1,?_⟩;exact k _ _ (ku (kD.refl _) hp) (by rw[cm,hu,hv])
 .intro D H2 sm _ hD;exact⟨D,_,Z,kR.of hD,q H2 sm⟩
abbrev ni (ps:List Nat):List Int:=ps.map fun (p:Nat)=>(p:Int)
theorem IW {ps:List Nat}{i:Nat}{x:V}(h:((ni ps).map zaa)[i]?=some x):∃p:Nat,x=.int p/\ps[i]?=some p:=by
 obtain⟨v,rfl,hv⟩:=int_at h;rw[af] at hv;cases e:ps[i]? with
 | none=>rw[e] at hv;cases hv
 | some p=>rw[e] at hv;cases hv;exact⟨p,Z,Z⟩
def pk (xs:List V)(ps:List Nat):List V:=ps.map fun p=>xs.getD p .non
inductive Nz (K:zdg)(vs:List V)(H:Hp)(Q:VK)(_:XK):Prop
 | mk (r s:Addr)(xs:List V)(ps:List Nat)(_:vs=[.ref r,.ref s])(_:kR K H r xs)(_:H s=some (.lst ((ni ps).map zaa)))(_:∀p∈ps,p<xs.length)(_:ps.length<=20000)(_:∀t H',kD H H'->H t=none->H' t=some (.lst (pk xs ps))->Q (.ref t) H')
theorem va (T:Txt K mg CF cN):Df P w K mg base 1 "picked" ["things","places"] (Nz K):=by
 refine mf T.d_picked FO fun f cdv A outer s H vs Q E hr nd h=>?_;obtain⟨r,s',xs,ps,rfl,h1,h2,lt,lz,q⟩:=h;refine⟨_,(ky (kM (om [("things",0)] ["place"] (lG (pv 1)) (fun C s H fp=>⟨(oM 1),lC,(k7 (qj (K:=K) Z) (pv 0) (pv 1))⟩)))),?_⟩;refine⟨_,Z,s',Z,⟨_,kR.of h2⟩,?_⟩;refine GS (K:=K) (xs:=(ni ps).map zaa) (pk xs ps) (by unfold pk;rw[List.length_map,List.length_map,List.length_map]) (by rw[List.length_map,List.length_map];exact lz) (kR.of h2) ?_ fun D H2 sm n hD=>q D H2 sm n hD;intro i x H2 hx sm R k;obtain⟨p,rfl,hp⟩:=IW hx;have pl:=lt p (ah hp);have e:xs[p]?=some (xs.getD p .non):=by rw[ao,az pl];rfl
 exact⟨_,Z,_,Z,r,_,_,_,Z,Z,sm.seq h1,m8 e,k _ _ (kD.refl _) (by unfold pk;rw[List.getElem?_map,hp];rfl)⟩
theorem GT (a:List Int)(ps:List Nat)(h:∀p∈ps,p<a.length):pk (a.map zaa) ps=(ps.map fun p=>zai a p).map zaa:=by
 unfold pk;rw[i5];refine List.map_congr_left fun p hp=>?_;rw[ao,af,zcl (h p hp)];rfl
inductive Qw (K:zdg)(vs:List V)(H:Hp)(Q:VK)(_:XK):Prop
 | mk (r:Addr)(è:List (List Int))(c:Nat)(_:vs=[.ref r,.int c])(_:mL H r è)(_:∀row∈è,c<row.length)(_:è.length<=20000)(_:∀t H',kD H H'->H t=none->H' t=some (.lst ((è.map fun row=>zai row c).map zaa))->Q (.ref t) H')
theorem uB (T:Txt K mg CF cN):Df P w K mg base 1 "column_of" ["rows","column"] (Qw K):=by
 refine mf T.d_column_of Ap fun f cdv A outer s H vs Q E hr nd h=>?_;obtain⟨r,è,c,rfl,⟨as,h1,pa⟩,lt,lz,q⟩:=h;have la:=kQ pa;refine⟨_,(ky (kM (om [("column",1)] ["row"] (lG (pv 0)) (fun C s H fp=>⟨(oM 1),lC,(k7 (qj (K:=K) Z) (pv 1) (pv 0))⟩)))),?_⟩;refine⟨_,Z,r,Z,⟨_,kR.of h1⟩,?_⟩;refine mP (K:=K) (xs:=as.map zac) (è.map fun row=>zai row c) (by rw[aa,aa,la]) (by rw[aa,la];exact lz) (kR.of h1) ?_ fun D H2 sm n hD=>q D H2 sm n hD;intro i x H2 hx sm R k;obtain⟨a,row,rfl,ha,mI,hh⟩:=nF pa hx;have cl:=lt row (ah mI);exact⟨_,Z,_,Z,a,_,_,_,Z,Z,kR.of (sm _ _ hh),m8 (by rw[af,zcl cl];rfl),k _ _ (kD.refl _) (by rw[af,mI];rfl)⟩
inductive MU (K:zdg)(vs:List V)(H:Hp)(Q:VK)(_:XK):Prop
 | mk (r:Addr)(è:List (List Int))(n:Nat)(_:vs=[.ref r])(_:mL H r è)(_:è.length=n)(_:∀row∈è,row.length=n)(_:n<=20000)(_:∀t H',kD H H'->H t=none->mL H' t (zcj n è)->Q (.ref t) H')
theorem wL (T:Txt K mg CF cN):Df P w K mg base 2 "flipped" ["rows"] (MU K):=by
 refine mf T.d_flipped CM fun f cdv A outer s H vs Q E hr nd h=>?_;obtain⟨r,è,n,rfl,hR,lr,lt,lz,q⟩:=h;obtain⟨as,h1,pa⟩:=id hR;have la:=kQ pa;refine⟨_,(ky (kM (om [("rows",0)] ["column"] (nM kf T.b_range (lJ (oG T.b_len (pv 0)))) (fun C s H fp=>⟨(oM 1),lC,(kW (uB T) hr (kZ (pv 0) (pv 1)))⟩)))),?_⟩;refine⟨_,Z,r,_,Z,.inl (kR.of h1),n,by rw[aa,la,lr],J,J,?_⟩;refine Ba (n:=n) (zcj n è) (by unfold zcj;rw[List.length_map,List.length_range]) lz ?_ fun D H2 sm n hD=>q D H2 sm n hD;intro i H2 hi sm R k;exact⟨_,Z,_,Z,r,è,i,Z,hR.same sm,fun row mI=>by rw[lt row mI];exact hi,J,fun t H3 mJ _ h3=>k H3 t _ mJ (by unfold zcj;rw[List.getElem?_map,List.getElem?_range hi];rfl) h3⟩
inductive Ru (K:zdg)(vs:List V)(H:Hp)(Q:VK)(_:XK):Prop
 | mk (n:Nat)(r s:Addr)(ps:List Nat)(xs:List Int)(_:vs=[.int n,.ref r,.ref s])(_:H r=some (.lst ((ni ps).map zaa)))(_:H s=some (.lst (xs.map zaa)))(_:ps.length=xs.length)(_:∀p∈ps,p<n)(_:n<=20000)(_:∀t H',kD H H'->H t=none->H' t=some (.lst ((zbi n ps xs).map zaa))->Q (.ref t) H')
theorem yS (T:Txt K mg CF cN):Df P w K mg base 1 "spread" ["size","places","numbers"] (Ru K):=by
 refine mf T.d_spread Ft fun f cdv A outer s H vs Q E hr nd h=>?_;obtain⟨n,r,s',ps,xs,rfl,h1,h2,l,lt,lz,q⟩:=h;refine⟨_,(kh (kU 3 nd (kK pJ (mF (lJ ks)) (pv 0))) (kh (mD aJ Z (pH kf T.b_zip (kZ (pv 1) (pv 2))) (nI Z (kX (mT 4 nd) (kX (mT 5 nd) mS))) (ky (pY (pv 5) (pZ (pv 3) (pv 4) set_list)))) (ky (kM (pv 3))))),?_⟩;refine⟨kC,fun lo zD=>⟨_,Z,lo,_,_,Z,Z,ko,J,J,ziV,fun p hp=>?_⟩⟩;rw[rep0];have LJ:kD H (upd (upd H lo (.lst [zaa 0])) p (.lst ((List.replicate n (0:Int)).map zaa))):=ku (ku (kD.refl _) zD) hp;have pn:H p=none:=(ku (kD.refl _) zD).free hp;have hP:upd (upd H lo (.lst [zaa 0])) p (.lst ((List.replicate n (0:Int)).map zaa)) p=some (.lst ((List.replicate n (0:Int)).map zaa)):=ko;generalize upd (upd H lo (.lst [zaa 0])) p (.lst ((List.replicate n (0:Int)).map zaa))=H0 at LJ hP ⊢;refine⟨_,Z,_,Z,r,s',Z,⟨_,kR.of (LJ _ _ h1)⟩,⟨_,kR.of (LJ _ _ h2)⟩,wA (K:=K) (xs:=(ni ps).map zaa) (ys:=xs.map zaa) (by rw[aa,aa,aa,l]) (fun i σ H2=>kD H H2/\(∃o1 o2:Option V,σ=[some (.int n),some (.ref r),some (.ref s'),some (.ref p),o1,o2])/\H2 p=some (.lst ((zbi n (ps.take i) (xs.take i)).map zaa))) ⟨LJ,⟨none,none,Z⟩,by rw[hP];rfl⟩ (fun i σ H2 _ z=>⟨z.1.seq (kR.of h1),z.1.seq (kR.of h2)⟩) ?_ ?_⟩
 .rintro i x y σ H2 pa hx hy ⟨sm,⟨o1,o2,rfl⟩,JC⟩ hpa;obtain⟨c,rfl,hc⟩:=IW hx;obtain⟨v,rfl,hv⟩:=int_at hy;have cl:=lt c (ah hc);have pne:p≠pa:=kP JC hpa;refine⟨pa,_,Z,lX.of ko,Z,_,_,Z,_,_,Z,Z,?_⟩;refine⟨_,Z,_,Z,_,Z,p,_,_,_,Z,Z,(kO pne).trans JC,qH J zja,?_⟩;refine⟨lI (ku sm hpa) pn,⟨_,_,Z⟩,?_⟩;rw[ko,ae,set_int];have e1:ps.take (i+1)=ps.take i++[c]:=by rw[df,hc];rfl
  have e2:xs.take (i+1)=xs.take i++[v]:=by rw[df,hv];rfl
  rw[e1,e2];unfold zbi;rw[Rx.y8 _ _ _ _ _ (by rw[cO,cO,l])]
 .rintro σ H2 ⟨sm,⟨o1,o2,rfl⟩,JC⟩;rw[aa,aa,bY,l,bY] at JC;exact⟨_,Z,q p H2 sm pn JC⟩
def Mq (H:Hp)(a:Addr)(x:zau):Prop:=∃b,H a=some (.tup [.int x.1,.int x.2.1,.ref b])/\H b=some (.lst (x.2.2.map zaa))
def r9 (H:Hp)(r:Addr)(fs:List zau):Prop:=∃as:List Addr,H r=some (.lst (as.map zac))/\Paired (Mq H) as fs
theorem oz {α β:Type}{F G:α->β->Prop}:∀{a:List α}{b:List β},Paired F a b->(∀x y,F x y->G x y)->Paired G a b
 | _,_,.nil,_=>.nil
 | _,_,.cons h t,i=>.cons (i _ _ h) (oz t i)
theorem r9.same {H H':Hp}(sm:kD H H'){fs:List zau}(h:r9 H r fs):r9 H' r fs :=
 let ⟨as,h1,h2⟩:=h;⟨as,sm _ _ h1,oz h2 fun _ _ ⟨b,u,v⟩=>⟨b,sm _ _ u,sm _ _ v⟩⟩
theorem r9.push {H:Hp}{F t b:Addr}{fs:List zau}{f:zau}(hF:H F=some (.lst (as.map zac)))(pa:Paired (Mq H) as fs)(ht:H t=some (.tup [.int f.1,.int f.2.1,.ref b]))(hb:H b=some (.lst (f.2.2.map zaa)))(nb:b≠F):r9 (upd H F (.lst (as.map zac++[.ref t]))) F (fs++[f]):=by
 have old:Paired (Mq (upd H F (.lst (as.map zac++[.ref t])))) as fs:=by
  have ne:∀(a:Addr)(x:zau),a∈as->Mq H a x->Mq (upd H F (.lst (as.map zac++[.ref t]))) a x:=fun a x ha ⟨c,u,v⟩=>by
   refine⟨c,(kO (oB u hF (by intro z;cases z))).trans u,(kO (oB v hF fun z=>?_)).trans v⟩;injection z with z;cases as with
   | nil=>cases ha
   | cons a0 T3=>cases e:x.2.2 with
    | nil=>rw[e] at z;cases z
    | cons y ys=>rw[e] at z;injection z with z1;cases z1
  have go:∀{uO:List Addr}{AO:List zau},(∀a∈uO,a∈as)->Paired (Mq H) uO AO->Paired (Mq (upd H F (.lst (as.map zac++[.ref t])))) uO AO:=fun {uO AO} sub p=>by
   induction p with
   | nil=>exact .nil
   | cons h _ ih=>exact .cons (ne _ _ (sub _ av) h) (ih fun a ha=>sub a (ar _ ha))
  exact go (fun a h=>h) pa
 refine⟨as++[t],by rw[ko,aS];rfl,L2.Paired.Cw old (.cons ⟨b,(kO (oB ht hF (by intro z;cases z))).trans ht,(kO nb).trans hb⟩ .nil)⟩
theorem wO {p:Int}{N:Nat}(pN:p<2^N)(h:Rx.In p l):Bd N l:=fun x hx=>by
 have:=h x hx;have e:=oR N;lia
inductive Qm (vs:List V)(H:Hp)(Q:VK)(_:XK):Prop
 | mk (r s:Addr)(step:List Int)(fs:List zau)(p:Int)(w N:Nat)(_:vs=[.ref r,.ref s,.int p])(_:H r=some (.lst (step.map zaa)))(_:r9 H s fs)(_:Rx.P8 p w fs)(_:step.length=w)(_:w<=20000)(_:0<p)(_:p<2^N)(_:N<=1000000)(_:∀t H',kD H H'->H' t=some (.lst ((zbe p fs step).map zaa))->Q (.ref t) H')
theorem xI (T:Txt K mg CF cN):Df P w K mg base 2 "cleared" ["step","found","prime"] Qm:=by
 refine mf T.d_cleared Cv fun f cdv A outer s H vs Q E hr nd h=>?_;obtain⟨r,s',step,fs,p,w',N,rfl,h1,hF,rk,l,lz,p0,pN,N1,q⟩:=h;obtain⟨as,h2,pa⟩:=id hF;have la:=kQ pa;refine⟨_,(kh (vV 3 [("prime",2)] ["weight"] nd (lG (pv 0)) (fun C s H fp=>⟨(oM 1),lC,(kK lO (pv 1) (pv 0))⟩)) (kh (mD aJ Z (lG (pv 1)) (nI Z (kX (mT 4 nd) (kX (mT 5 nd) (kX (mT 6 nd) mS)))) (ky (kU 3 nd (kW (sJ T) hr (ki (pv 3) (ki (k7 lP (pv 3) (pv 5)) (ki (pv 6) (ki (pv 2) kS)))))))) (ky (kM (pv 3))))),?_⟩;refine⟨_,Z,r,Z,⟨_,kR.of h1⟩,?_⟩;refine mP (K:=K) (xs:=step.map zaa) (step.map fun x=>x%p) ziY ziU (kR.of h1) ?_ ?_
 .intro i x H2 hx sm R k;obtain⟨u,rfl,hu⟩:=int_at hx;exact⟨_,Z,_,Z,_,_,Z,Z,p0,k _ _ (kD.refl _) (by rw[af,hu];rfl)⟩
 .intro D H0 rL _ hD;refine⟨_,Z,s',Z,⟨_,kR.of (rL _ _ h2)⟩,nu (K:=K) (xs:=as.map zac) (fun i σ H2=>kD H H2/\∃(tl:Addr)(o1 o2 o3:Option V),σ=[some (.ref r),some (.ref s'),some (.int p),some (.ref tl),o1,o2,o3]/\H2 tl=some (.lst ((zbe p (fs.take i) step).map zaa))) ⟨rL,D,none,none,none,Z,hD⟩ (fun i σ H2 _ z=>z.1.seq (kR.of h2)) ?_ ?_⟩
  .rintro i x σ H2 hx ⟨sm,tl,o1,o2,o3,rfl,hl⟩;obtain⟨a,rfl,ha⟩:=pI hx;obtain⟨f,hf,b,ht,hb⟩:=mj pa ha;have rf:=rk f (ah hf);have ok:=Rx.tY p0 l (fs:=fs.take i) Z fun f hf=>rk f (gu hf);refine⟨a,_,Z,lX.of (sm _ _ ht),Z,_,_,Z,_,_,Z,_,_,Z,Z,?_⟩;have cg:m9 ((zbe p (fs.take i) step).map zaa) (f.2.1:Int)=some (.int (zai (zbe p (fs.take i) step) f.2.1)):=m8 ziW;have big:=ok.2.g p0 f.2.1;have e:=oR N;refine⟨_,Z,_,Z,_,Z,tl,_,_,_,Z,Z,kR.of hl,cg,_,Z,_,Z,tl,b,_,f.2.2,_,p,N,N,Z,hl,sm _ _ hb,by rw[ok.1,rf.1],J,p0,J,wO pN rf.2.1,N1,N1,fun t H3 mJ h3=>?_⟩;refine⟨sm.trans mJ,t,_,_,_,Z,?_⟩;have e1:fs.take (i+1)=fs.take i++[f]:=by rw[df,hf];rfl
   rw[e1,Rx.wN];exact h3
  .rintro σ H2 ⟨sm,tl,o1,o2,o3,rfl,hl⟩;rw[aa,la,bY] at hl;exact⟨_,Z,q tl H2 sm hl⟩
inductive NI (vs:List V)(H:Hp)(Q:VK)(_:XK):Prop
 | mk (r:Addr)(é:List (List Int))(p:Int)(w N:Nat)(_:vs=[.ref r,.int p])(_:mL H r é)(_:∀x∈é,x.length=w)(_:w<=20000)(_:é.length<=20000)(_:zak p)(_:p<2^N)(_:1<=N)(_:N<=9000)(_:∀t H' fs,kD H H'->H t=none->r9 H' t fs->Rx.rD p w é é.length fs->Q (.ref t) H')
theorem Cs (T:Txt K mg CF cN):Df P w K mg base 5 "corners" ["steps","prime"] NI:=by
 refine mf T.d_corners Dd fun f cdv A outer s H vs Q E hr nd h=>?_;obtain⟨r,é,p,w',N,rfl,⟨as,h1,pa⟩,lw,lz,ls,hp,pN,N1,N2,q⟩:=h;have la:=kQ pa;have p2:=hp.1;refine⟨_,(kh (kU 2 nd (mF kS)) (kh (mD aJ Z (pR kf T.b_enumerate (lJ (pv 0))) (nI Z (kX (mT 3 nd) (kX (mT 4 nd) mS))) (kh (kU 5 nd (kW (xI T) hr (ki (pv 4) (ki (pv 2) (ki (pv 1) kS))))) (kh (kU 6 nd (kW (rQ T) hr (lJ (pv 5)))) (ky (mh (mC Kl (pv 6) sA) (ky (oy (vy cV cQ cR oF (pv 2) (lJ (mE (ki (pv 3) (ki (pv 6) (ki (kW (sK T) hr (ki (pv 5) (ki (kW (Am T) hr (kZ (k7 lP (pv 5) (pv 6)) (pv 1))) (ki (pv 1) kS)))) kS)))))))) k9))))) (ky (kM (pv 2))))),?_⟩;refine⟨n5 O,fun F hF=>?_⟩;have JW:kD H (upd H F (.lst [])):=ku (kD.refl _) hF;refine⟨_,Z,r,Z,⟨_,kR.of (JW _ _ h1)⟩,p5 (K:=K) (xs:=as.map zac) (fun i σ H2=>kD H H2/\∃(fs:List zau)(o1 o2 o3 o4:Option V),σ=[some (.ref r),some (.int p),some (.ref F),o1,o2,o3,o4]/\r9 H2 F fs/\fs.length<=i/\Rx.rD p w' é i fs) ⟨JW,[],none,none,none,none,Z,⟨[],ko,.nil⟩,aH _,.start ..⟩ (fun i σ H2 _ z=>z.1.seq (kR.of h1)) ?_ ?_⟩
 .rintro i x σ H2 pp hx ⟨sm,fs,o1,o2,o3,o4,rfl,fo,fl,cn⟩ Ck;obtain⟨a,step,rfl,ha,ub,hh⟩:=nF pa hx;have il:i<as.length:=(aF.mp ha).1;have l:=lw step (ah ub);have rM:=ku (o:=.tup [.int (i:Nat),.ref a]) (kD.refl H2) Ck;refine⟨pp,_,Z,lX.of ko,Z,_,_,Z,_,_,Z,Z,?_⟩;refine⟨_,Z,_,Z,_,Z,a,F,step,fs,p,w',N,Z,rM _ _ (sm _ _ hh),fo.same rM,cn.rok,l,lz,J,pN,J,fun tl H3 mJ hl=>?_⟩;have ok:=Rx.tY (show 0<p by lia) l Z cn.rok;have Sn:=(sm.trans rM).trans mJ;have fo3:=(fo.same rM).same mJ;refine⟨_,Z,tl,_,Z,hl,by rw[ok.1];exact lz,fun c H4 nJ hc nz=>?_,fun H4 nJ z=>?_⟩
  .rw[ok.1] at hc;have gb:=ok.2.g (show 0<p by lia) c;have Ue:=nJ _ _ hl;have cg:m9 ((zbe p fs step).map zaa) (c:Int)=some (.int (zai (zbe p fs step) c)):=m8 ziW;refine⟨_,Z,Z,_,Z,qM ke ?_⟩;obtain⟨fas,fh,fpa⟩:=fo3.same nJ;refine⟨_,Z,.inl ⟨Z,_,kR.of fh⟩,_,Z,_,Z,_,Z,_,Z,_,Z,tl,_,_,_,Z,Z,kR.of Ue,cg,_,Z,_,p,N,Z,J,N1,N2,pN,fun d d1 dp dg=>?_,fun u H5 u1 u2 hu ol=>?_⟩
   .rcases Int.lt_or_le d p with c' | c'
    .rcases Int.lt_or_le d 2 with c'' | c''
     .lia
     .exact absurd dp (hp.2 d c'' c')
    .have:=aW (show 0<zai (zbe p fs step) c by lia) dg;lia
   have e:=oR N;refine⟨_,Z,tl,_,u,p,N,N,Z,ol _ _ Ue,by rw[ok.1];exact lz,J,J,wO pN ok.2,J,J,fun tr H6 rh h6=>?_⟩;refine⟨kY,fun tt qk=>?_⟩;have LK:=ku (o:=.tup [.int (i:Nat),.int (c:Nat),.ref tr]) (kD.refl H6) qk;have Cm:=(ol.trans rh).trans LK;refine⟨F,_,_,Z,Z,Cm _ _ fh,?_,?_⟩
   .rw[aa,kQ fpa];exact nQ J
   .have pa6:=oz fpa fun _ _ ⟨b,u,v⟩=>(⟨b,Cm _ _ u,Cm _ _ v⟩:Mq _ _ _);have Fn:H6 F=some (.lst (fas.map zac)):=rh _ _ (ol _ _ fh);have nb:tr≠F:=fun z=>by
     rw[z] at h6;rw[Fn] at h6;injection h6 with h6;injection h6 with h6;have l6:=cU List.length h6;rw[aa,aa,aa,ok.1] at l6;cases e1:fas with
     | nil=>rw[e1] at l6;simp at l6;lia
     | cons a0 T3=>cases e2:(zbe p fs step) with
      | nil=>rw[e2] at ok;have:=ok.1;simp at this;lia
      | cons y ys=>rw[e1,e2] at h6;injection h6 with z1;cases z1
    refine⟨lI (((Sn.trans nJ).trans (ol.trans rh)).trans LK) hF,fs++[((i:Nat),c,(zbe p fs step).map fun x=>x*u%p)],_,_,_,_,Z,r9.push (f:=((i:Nat),c,(zbe p fs step).map fun x=>x*u%p)) (Cm _ _ fh) pa6 ko (LK _ _ h6) nb,by rw[aI];show fs.length+1<=_;lia,cn.some hp ub l hc nz hu⟩
  .refine⟨_,Z,Z,_,Z,nq ke ?_⟩;exact⟨Sn.trans nJ,fs,_,_,_,_,Z,fo3.same nJ,J,cn.none J ub l (by rw[<-ok.1];exact z)⟩
 .rintro σ H2 ⟨sm,fs,o1,o2,o3,o4,rfl,fo,fl,cn⟩;rw[aa,la] at cn;exact⟨_,Z,q F H2 fs sm hF fo cn⟩
theorem wn {n i:Nat}(h:i<n)(x:Int):Ld.Ol n i x=zbw n i x:=by
 unfold Ld.Ol zbw;have:((i:Int)%n).toNat=i:=by rw[aX J J];lia
 rw[this]
theorem G4 {N:Nat}{row other:List Int}{à:Int}(m0:0<m)(mN:m<2^N)(h:Bd N row):Bd N (zcp row à other m):=by
 unfold zcp;split
 .exact h
 .exact wO mN (Rx.In.zip m0 _ _ fun x y=>x-à*y)
inductive QY (vs:List V)(H:Hp)(Q:VK)(_:XK):Prop
 | mk (r:Addr)(è:List (List Int))(k E N:Nat)(p:Int)(_:vs=[.ref r,.int (p^E)])(_:mL H r è)(_:è.length=k)(_:∀row∈è,row.length=k/\Bd N row)(_:k<=420)(_:1<=E)(_:zak p)(_:p^E<2^N)(_:1<=N)(_:N<=9000)(_:∀c,c<=k->Mx.vZ p c (zat è))(_:∀t H' us,kD H H'->H t=none->mL H' t us->us.length=k->(∀u∈us,u.length=k/\Bd N u)->Mx.LI (p^E) k (zat us) (zat è)->Q (.ref t) H')
theorem xp (T:Txt K mg CF cN):Df P w K mg base 5 "undone_rows" ["rows","modulus"] QY:=by
 refine mf T.d_undone_rows wR fun f cdv A outer s H vs Q E hr nd h=>?_;obtain⟨r,è,k,E',N,p,rfl,⟨as,h1,pa⟩,lr,lw,k4,E1,hp,mN,N1,N2,ind,q⟩:=h;have la:=kQ pa;have p2:=hp.1;have m0:0<p^E':=f7 J;have pm:p∣p^E':=by
  obtain⟨e,rfl⟩:∃e,E'=e+1:=⟨E'-1,J⟩;exact⟨p^e,by rw[bu,aC]⟩
 have eN:=oR N;have N2':2<=2^N:=bU (n:=2) O N1;generalize hm:p^E'=m at *;refine⟨_,(kh (kU 2 nd (oG T.b_len (pv 0))) (kh (vV 3 [("size",2)] ["number","row"] nd (pR kf T.b_enumerate (lJ (pv 0))) (fun C s H fp=>⟨(uZ 1 2),lC,(kK ua (pv 2) (kW (wx T) hr (ki (pv 0) (ki (pv 1) (ki ks kS)))))⟩)) (kh (mD aJ Z (nM kf T.b_range (lJ (pv 2))) (mT 4 nd) (kh (kU 5 nd (kW (sK T) hr (ki (k7 lP (pv 3) (pv 4)) (ki (kW (Am T) hr (kZ (k7 lP (k7 lP (pv 3) (pv 4)) (pv 4)) (pv 1))) (ki (pv 1) kS))))) (kh (vV 3 [("lead",5),("modulus",1),("column",4)] ["row"] nd (lG (pv 3)) (fun C s H fp=>⟨(oM 3),lC,(kW (sJ T) hr (ki (pv 3) (ki (k7 (qj (K:=K) Z) (pv 3) (pv 2)) (ki (pv 0) (ki (pv 1) kS)))))⟩)) (ky (pY (pv 5) (pZ (pv 3) (pv 4) set_list)))))) (ky (kM (om [("size",2)] ["row"] (lG (pv 3)) (fun C s H fp=>⟨(oM 1),lC,(uL (Ir (K:=K) Z) (pv 1) (sQ (pv 0)) Ew)⟩))))))),?_⟩;refine⟨_,Z,r,_,Z,.inl (kR.of h1),?_⟩;rw[aa,la,lr];refine⟨_,Z,r,Z,⟨_,kR.of h1⟩,?_⟩;refine HC (K:=K) (xs:=as.map zac) (zcb k è) (by unfold zcb;rw[List.length_mapIdx,List.length_map,la]) (by rw[List.length_map,la];lia) (kR.of h1) ?_ ?_
 .intro i x H2 pp hx sm Ck R kk;obtain⟨a,row,rfl,ha,mI,hh⟩:=nF pa hx;have il:i<k:=by rw[<-lr];exact(aF.mp mI).1
  have rl:=lw row (ah mI);have rM:=ku (o:=.tup [.int (i:Nat),.ref a]) (kD.refl H2) Ck;refine⟨pp,_,Z,lX.of ko,Z,_,_,Z,_,_,Z,Z,?_⟩;refine⟨_,Z,_,Z,_,Z,k,(i:Nat),1,Z,J,J,fun ht H3 mJ _ h3=>?_⟩;rw[wn il] at h3;refine⟨a,ht,_,_,Z,Z,mJ _ _ (rM _ _ (sm _ _ hh)),h3,?_,fun c hc=>?_⟩
  .rw[aa,aa,zda,rl.1];exact n5 J
  .rw[<-aS];exact kk _ c (row++zbw k i 1) (ku (rM.trans mJ) hc) (by unfold zcb;rw[List.getElem?_mapIdx,mI];rfl) ko
 intro D H0 rL nD hD;have gj0:=Rx.M8 (m:=m) lr fun row h=>(lw row h).1;have au:(zcb k è).length=k/\∀row∈zcb k è,row.length=k+k/\Bd N row:=by
  refine⟨by unfold zcb;rw[List.length_mapIdx,lr],fun row mI=>?_⟩;obtain⟨i,hi,e⟩:=List.getElem_of_mem mI;unfold zcb at e hi;rw[List.getElem_mapIdx] at e;rw[List.length_mapIdx] at hi;have rl:=lw _ (cx hi);rw[<-e];refine⟨by rw[aI,zda,rl.1],fun x hx=>?_⟩;rcases List.mem_append.mp hx with c | c
  .exact rl.2 x c
  .obtain⟨j,hj,ej⟩:=zck c;rw[Rx.p4 J] at ej;split at ej<;>(rw[<-ej];lia)
 refine⟨_,Z,k,Z,J,J,rF (n:=k) (fun i σ H2=>kD H H2/\∃(tl:Addr)(ls:List (List Int))(o1 o2:Option V),σ=[some (.ref r),some (.int m),some (.int k),some (.ref tl),o1,o2]/\mL H2 tl ls/\ls.length=k/\(∀row∈ls,row.length=k+k/\Bd N row)/\Mx.Gj m k (zat è) i (Rx.wl k ls) (Rx.wr k ls)) ⟨rL,D,_,none,none,Z,hD,au.1,au.2,gj0⟩ ?_ ?_⟩
 .rintro c σ H2 hc ⟨sm,tl,ls,o1,o2,rfl,⟨bs,t1,pb⟩,ll,lb,gj⟩;have Uf:=kQ pb;have mI:=zbz (è:=ls) (i:=c) J;have rl:=lb _ (zbm (è:=ls) (i:=c) J);obtain⟨a,LL,ha⟩:=wJ pb mI;have cg:m9 ((ls.getD c []).map zaa) (c:Int)=some (.int (zai (ls.getD c []) c)):=m8 ziW;have piv:¬p∣zai (ls.getD c []) c:=by
   have:=gj.P5 p2 pm hc (ind (c+1) hc);unfold Rx.wl at this;rwa [ae] at this
  refine⟨_,Z,_,Z,tl,_,_,_,Z,Z,kR.of t1,LL,_,Z,_,Z,tl,_,_,_,Z,Z,kR.of t1,LL,_,Z,a,_,_,_,Z,Z,kR.of ha,cg,_,Z,_,m,N,Z,J,N1,N2,mN,fun d d1 dm dg=>Rx.J0 hp piv d1 (by rw[hm];exact dm) dg,fun u H3 u1 u2 hu mJ=>?_⟩;refine⟨_,Z,a,_,u,m,N,N,Z,mJ _ _ ha,J,m0,J,rl.2,J,J,fun le H4 nJ h4=>?_⟩;obtain⟨lead,qm⟩:∃lead:List Int,lead=(ls.getD c []).map fun x=>x*u%m:=⟨_,Z⟩;rw[<-qm] at h4;have lel:lead.length=k+k:=by rw[qm,aa,rl.1]
  have lei:Bd N lead:=by rw[qm];exact wO mN (Rx.In.mod m0 _ fun x=>x*u)
  have t4:=nJ _ _ (mJ _ _ t1);have YS:=lZ (mJ.trans nJ) pb;refine⟨_,Z,tl,Z,⟨_,kR.of t4⟩,?_⟩;refine p9 (K:=K) (xs:=bs.map zac) (ls.map fun row=>zcp row (zai row c) lead m) (by rw[aa,aa,Uf]) ziU (kR.of t4) ?_ ?_
  .intro i x H5 hx ol R kk;obtain⟨b,row,rfl,hb,PD,Ug⟩:=nF YS hx;have rl5:=lb row (ah PD);have cg5:m9 (row.map zaa) (c:Int)=some (.int (zai row c)):=m8 ziW;have gb:=rl5.2 _ (zbd (l:=row) (i:=c) J);exact⟨_,Z,_,Z,_,Z,b,_,_,_,Z,Z,kR.of (ol _ _ Ug),cg5,_,Z,_,Z,b,le,row,lead,_,m,N,N,Z,ol _ _ Ug,ol _ _ h4,by rw[rl5.1,lel],J,m0,gb,lei,J,J,fun t H6 rh h6=>kk H6 t _ rh (by rw[af,PD];rfl) h6⟩
  intro D2 H5 ol YT ⟨es,e1,pe⟩;have uc:=kQ pe;rw[aa] at uc;refine⟨_,Z,_,Z,_,Z,D2,_,_,_,Z,Z,e1,qH J ziU,?_⟩;have smc:=(sm.trans mJ).trans nJ;have u1':=Rx.GV (m:=m) (v:=u) ll hc fun row h=>(lb row h).1;have eq:(ls.map fun row=>zcp row (zai row c) lead m).set c lead=Rx.tS m c u ls:=by unfold Rx.tS;rw[qm]
  refine⟨lI (smc.trans ol) (smc.free YT),D2,Rx.tS m c u ls,_,_,Z,?_,u1'.1,fun row mI=>⟨u1'.2 row mI,?_⟩,Rx.Kb ll (fun row h=>(lb row h).1) gj hc hu⟩
  .rw[<-eq,ae];exact mL.put e1 pe (fun z=>by rw[z] at uc;simp at uc;lia) (ol _ _ h4)
  .rw[<-eq] at mI;rcases List.mem_or_eq_of_mem_set mI with z | z
   .obtain⟨y,hy,rfl⟩:=List.mem_map.mp z;exact G4 m0 mN (lb y hy).2
   .rw[z];exact lei
 .rintro σ H2 ⟨sm,tl,ls,o1,o2,rfl,⟨bs,t1,pb⟩,ll,lb,gj⟩;have Uf:=kQ pb;refine⟨_,Z,tl,Z,⟨_,kR.of t1⟩,?_⟩;refine p9 (K:=K) (xs:=bs.map zac) (ls.map fun row=>row.drop k) (by rw[aa,aa,Uf]) ziU (kR.of t1) ?_ ?_
  .intro i x H5 hx ol R kk;obtain⟨b,row,rfl,hb,PD,Ug⟩:=nF pb hx;refine⟨_,Z,_,Z,_,Z,b,_,Z,kR.of (ol _ _ Ug),fun c hc=>?_⟩;rw[A7];exact kk _ c (row.drop k) (ku (kD.refl _) hc) (by rw[af,PD];rfl) ko
  .intro D2 H5 ol YT YU;refine q D2 H5 _ (sm.trans ol) (sm.free YT) YU (by rw[aa,ll]) (fun u hu=>?_) (Rx.KI ll gj);obtain⟨y,hy,rfl⟩:=List.mem_map.mp hu;exact⟨by rw[cI,(lb y hy).1];lia,fun x hx=>(lb y hy).2 x (ia hx)⟩
theorem uk {X:Cx}{K:zdg}(h:X.K=K):Pd X (QK K):=by subst h;exact kT
theorem Aq {x:Int}(x0:0<=x)(m0:0<=m)(h:uH x<=m):x<2^m.toNat:=by
 have e:=oR m.toNat;unfold uH Builtin.Int.intBits at h
 by_cases z:x=0
 .rw[z];exact f7 O
 .rw[ak (by simpa using z)] at h;have:=(iC (show x.natAbs≠0 by lia)).mp (show x.natAbs.log2<m.toNat by lia);lia
theorem EW {x:Int}(x0:0<=x)(m0:0<=m)(h:m<uH x):2^m.toNat<=x:=IC x0 m0 h
theorem Fu {sc æ:Int}(s0:64<=sc)(e:æ=(uH sc-2)/2):0<=æ/\2<=(2:Int)^æ.toNat/\2*((2:Int)^æ.toNat*2^æ.toNat)<=sc/\sc<8*((2:Int)^æ.toNat*2^æ.toNat):=by
 have b6:6<uH sc:=by
  rcases Int.lt_or_le 6 (uH sc) with c | c
  .exact c
  .have:=Aq J (show (0:Int)<=6 by decide) c;have e6:(2:Int)^(6:Int).toNat=64:=O;lia
 have lo:=EW (x:=sc) (m:=uH sc-1) J J J;have hi:=Aq (x:=sc) (m:=uH sc) J J (dj _);have p1:(2:Int)^æ.toNat*2^æ.toNat=2^(æ.toNat+æ.toNat):=by rw[eT]
 have b2:æ.toNat=(æ.toNat-1)+1:=J;refine⟨J,?_,?_,?_⟩
 .rw[b2,bu];have:(1:Int)<=2^(æ.toNat-1):=f7 O;lia
 .rw[p1];have a:(2:Int)^(æ.toNat+æ.toNat+1)<=2^(uH sc-1).toNat:=by
   have n1:=oR (æ.toNat+æ.toNat+1);have n2:=oR (uH sc-1).toNat;have:=bU (n:=2) O (show æ.toNat+æ.toNat+1<=(uH sc-1).toNat by lia);lia
  rw[bu] at a;lia
 .rw[p1];have a:(2:Int)^(uH sc).toNat<=2^(æ.toNat+æ.toNat+3):=by
   have n1:=oR (æ.toNat+æ.toNat+3);have n2:=oR (uH sc).toNat;have:=bU (n:=2) O (show (uH sc).toNat<=æ.toNat+æ.toNat+3 by lia);lia
  rw[show æ.toNat+æ.toNat+3=æ.toNat+æ.toNat+1+1+1 from Z,bu,bu,bu] at a;lia
inductive WZ (vs:List V)(H:Hp)(Q:VK)(_:XK):Prop
 | mk (x sc æ:Int)(N:Nat)(_:vs=[.int x,.int sc,.int æ])(_:0<=x)(_:x<sc)(_:0<=æ)(_:2^æ.toNat<=sc)(_:1<=N)(_:N<=9000)(_:sc<2^N)(_:∀H' r0 r1 c0 c1,kD H H'->zdf sc x r0 r1 c0 c1->2^æ.toNat<=r0->r1<2^æ.toNat->(c1.natAbs:Int)<=sc->Q (.int c1.natAbs) H')
theorem vT (T:Txt K mg CF cN):Df P w K mg base 4 "least_bottom" ["number","scale","bits"] WZ:=by
 refine mf T.d_least_bottom vU fun f cdv A outer s H vs Q E hr nd h=>?_;obtain⟨x,sc,æ,N,rfl,x0,x1,b0,bs,N1,N2,fN,q⟩:=h;refine⟨_,(ky (kM (lH qa kf T.b_abs zcx (lJ (k7 kT (kW (vg T) hr (ki (pv 1) (ki (pv 0) (ki (pv 2) kS)))) ks))))),?_⟩;refine⟨_,Z,_,Z,_,Z,sc,x,æ,N,Z,J,x0,b0,N1,N2,fN,J,fun t H1 r0 c0 r1 c1 sm h1 S p0 bz big _=>?_⟩;have i3:m9 [zaa r0,zaa c0,zaa r1,zaa c1] 3=some (.int c1):=Z;refine⟨t,_,_,_,Z,Z,lX.of h1,i3,_,Z,?_⟩;have e:(if c1<0 then -c1 else c1)=(c1.natAbs:Int):=by split<;>lia
 rw[e];exact q H1 r0 r1 c0 c1 sm S (by rcases big with z | z<;>lia) (Aq S.p1 b0 bz) (S.c1 J p0)
inductive Nv (K:zdg)(vs:List V)(H:Hp)(Q:VK)(_:XK):Prop
 | mk (r:Addr)(l:List Int)(sc:Int)(N:Nat)(_:vs=[.ref r,.int sc])(_:H r=some (.lst (l.map zaa)))(_:l.length<=20000)(_:Rx.In sc l)(_:64<=sc)(_:1<=N)(_:N<=9000)(_:sc<2^N)(_:∀Hh:Int,2<=Hh->2*(Hh*Hh)<=sc->sc<8*(Hh*Hh)->(∀H' l1 l2 b,kD H H'->l=l1++l2->Rx.AL sc Hh l1 b->Hh<=b->Q .non H')/\∀t tt H' b,kD H H'->H' t=some (.tup [.ref tt,.int b])->H' tt=some (.lst ((l.map fun x=>zbs (x*b) sc).map zaa))->Rx.AL sc Hh l b->b<Hh->Q (.ref t) H')
theorem z4 (T:Txt K mg CF cN):Df P w K mg base 5 "fractions" ["rests","scale"] (Nv K):=by
 refine mf T.d_fractions AB fun f cdv A outer s H vs Q E hr nd h=>?_;obtain⟨r,l,sc,N,rfl,h1,lz,li,s6,N1,N2,fN,q⟩:=h;have eN:=oR N;refine⟨_,(kh (kU 2 nd (kK lE (kK nV (wI e9 dZ ef ux (pv 1)) ks) ks)) (kh (kU 3 nd ks) (kh (mD aJ Z (lG (pv 0)) (mT 4 nd) (kh (kU 3 nd (kK lL (pv 3) (kW (vT T) hr (ki (kK lO (kK lL (pv 4) (pv 3)) (pv 1)) (ki (pv 1) (ki (pv 2) kS)))))) (ky (mh (mC tI (wI e9 dZ ef ux (pv 3)) (pv 2)) (ky (kM sA)) k9)))) (ky (kM (mE (kZ (om [("scale",1),("bottom",3)] ["number"] (lG (pv 0)) (fun C s H fp=>⟨(oM 2),lC,(kW (xD T) hr (kZ (kK lL (pv 2) (pv 1)) (pv 0)))⟩)) (pv 3)))))))),?_⟩;refine⟨_,Z,Z,_,Z,Z,_,_,Z,Z,_,_,Z,Z,lR O O,?_⟩;obtain⟨æ,hb⟩:∃æ:Int,æ=(uH sc-2)/2:=⟨_,Z⟩;dsimp only;rw[<-hb];have hf:=Fu s6 hb;have qq:=q _ hf.2.1 hf.2.2.1 hf.2.2.2;obtain⟨Hh,So⟩:∃Hh:Int,Hh=2^æ.toNat:=⟨_,Z⟩;rw[<-So] at hf qq;have T7:Hh<=Hh*Hh:=by have:=aq (show 1<=Hh by lia) (show 0<=Hh by lia);lia
 have HN:Hh<2^N:=J;refine⟨_,Z,r,Z,⟨_,kR.of h1⟩,nu (K:=K) (xs:=l.map zaa) (fun i σ H2=>kD H H2/\∃(b:Int)(o:Option V),σ=[some (.ref r),some (.int sc),some (.int æ),some (.int b),o]/\Rx.AL sc Hh (l.take i) b/\b<Hh) ⟨kD.refl _,1,none,Z,.nil,J⟩ (fun i σ H2 _ z=>z.1.seq (kR.of h1)) ?_ ?_⟩
 .rintro i x σ H2 hx ⟨sm,b,o,rfl,fr,bH⟩;obtain⟨u,rfl,hu⟩:=int_at hx;have um:=li u (ah hu);have b0:=fr.pos J;have m0:=aE (u*b) (show sc≠0 by lia);have m1:=aA (u*b) (show 0<sc by lia);refine⟨_,Z,_,Z,_,Z,_,_,Z,Z,sX (N:=N) (M:=N) J J J J,_,Z,_,_,Z,Z,(show 0<sc by lia),_,Z,_,Z,_,sc,æ,N,Z,m0,m1,hf.1,by rw[<-So];lia,N1,N2,fN,fun H3 r0 r1 c0 c1 mJ S h0 Sq cb=>?_⟩;rw[<-So] at h0 Sq;refine⟨_,_,Z,Z,sX (N:=N) (M:=N) J J J J,?_⟩;have YV:Rx.AL sc Hh (l.take (i+1)) (b*c1.natAbs):=by
   rw[df,hu];exact fr.snoc S h0 Sq
  have b20:=YV.pos J;refine⟨_,Z,Z,_,Z,Z,_,Z,_,_,Z,Z,_,Z,nw (fun c=>?_) (fun c=>?_)⟩
  .have gt:=dec c;have:=EW J hf.1 gt;rw[<-So] at this;exact qq.1 H3 (l.take (i+1)) (l.drop (i+1)) _ (sm.trans mJ) (List.take_append_drop ..).symm YV this
  .have le:=uR c;have:=Aq (x:=b*c1.natAbs) J hf.1 J;rw[<-So] at this;exact⟨sm.trans mJ,_,_,Z,YV,this⟩
 .rintro σ H2 ⟨sm,b,o,rfl,fr,bH⟩;rw[aa,bY] at fr;have b0:=fr.pos J;refine⟨_,Z,r,Z,⟨_,kR.of (sm _ _ h1)⟩,?_⟩;refine mP (K:=K) (xs:=l.map zaa) (l.map fun x=>zbs (x*b) sc) ziY (by rw[aa];exact lz) (kR.of (sm _ _ h1)) ?_ ?_
  .intro i x H3 hx mJ R k;obtain⟨u,rfl,hu⟩:=int_at hx;have um:=li u (ah hu);exact⟨_,Z,_,Z,_,_,Z,Z,sX (N:=N) (M:=N) J J J J,_,Z,_,sc,Z,J,k _ _ (kD.refl _) (by rw[af,hu];rfl)⟩
  .intro D H3 mJ _ hD;refine⟨_,Z,kq,fun t ht=>?_⟩;exact qq.2 t D _ b (ku (sm.trans mJ) ht) ko (ku (kD.refl _) ht _ _ hD) fr bH
def Ib (H:Hp)(è:List (List Int))(ê:List Int)(k:Nat)(tv:V)(Q:VK):Prop :=
 ((tv=.non/\∀H',kD H H'->Q (.bl false) H')\/∃(t tt:Addr)(á:List Int)(b:Int),tv=.ref t/\H t=some (.tup [.ref tt,.int b])/\H tt=some (.lst (á.map zaa))/\á.length=k/\Bd 20000 á/\b.natAbs<2^20000 /\
  (∀H',kD H H'->(∀i,i<k->zao (è.getD i []) á=b*zai ê i)->Q (.bl true) H')/\∀H',kD H H'->¬(∀i,i<k->zao (è.getD i []) á=b*zai ê i)->Q (.bl false) H')
inductive Vo (K:zdg)(vs:List V)(H:Hp)(Q:VK)(_:XK):Prop
 | mk (r s:Addr)(è:List (List Int))(ê:List Int)(k:Nat)(tv:V)(_:vs=[.ref r,.ref s,tv])(_:mL H r è)(_:H s=some (.lst (ê.map zaa)))(_:è.length=k)(_:∀row∈è,row.length=k/\Bd 20000 row)(_:ê.length=k)(_:Bd 20000 ê)(_:k<=20000)(_:Ib H è ê k tv Q)
theorem xK (T:Txt K mg CF cN):Df P w K mg base 3 "is_solution" ["rows","goal","told"] (Vo K):=by
 refine mf T.d_is_solution wZ fun f cdv A outer s H vs Q E hr nd h=>?_;obtain⟨r,s',è,ê,k,tv,rfl,⟨as,h1,pa⟩,h2,lr,lw,lg,bg,kz,tl⟩:=h;have la:=kQ pa;refine⟨_,(kh (mh (mC Aw (pv 2) sA) (ky (kM qB)) k9) (ky (kM (lH (sP Z) kf T.b_all L2.AE (lJ (om [("told",2)] ["row","number"] (pH kf T.b_zip (kZ (pv 0) (pv 1))) (fun C s H fp=>⟨(uZ 1 2),lC,(nX nR (kW (p6 T) hr (kZ (pv 1) (k7 (uk (K:=K) Z) (pv 0) ks))) (kK lL (k7 (uk (K:=K) Z) (pv 0) ks) (pv 2)) (oO _))⟩))))))),?_⟩;refine⟨_,Z,Z,_,Z,?_⟩;rcases tl with ⟨rfl,q⟩ | ⟨t,tt,á,b,rfl,ht,qk,lt,bt,bb,qt,qf⟩
 .exact qM ke (q H (kD.refl _))
 refine nq ke ?_;have i0:m9 [zac tt,zaa b] 0=some (.ref tt):=Z;have i1:m9 [zac tt,zaa b] 1=some (.int b):=Z;refine⟨_,Z,_,Z,r,s',Z,⟨_,kR.of h1⟩,⟨_,kR.of h2⟩,?_⟩;obtain⟨zs,Uh⟩:∃zs:List Bool,zs=(List.range k).map fun i=>decide (zao (è.getD i []) á=b*zai ê i):=⟨_,Z⟩;have lzs:zs.length=k:=by rw[Uh,aa,gO]
 refine Fe (K:=K) (xs:=as.map zac) (ys:=ê.map zaa) zs (by rw[aa,aa,la,lr,lg]) (by rw[lzs,aa,la,lr]) ziU (kR.of h1) (kR.of h2) ?_ ?_
 .intro i x y H2 p hx hy sm hp R kk;obtain⟨a,row,rfl,ha,mI,hh⟩:=nF pa hx;obtain⟨v,rfl,hv⟩:=int_at hy;have il:i<k:=by rw[<-lr];exact(aF.mp mI).1
  have rl:=lw row (ah mI);have rM:=ku (o:=.tup [.ref a,.int v]) (kD.refl H2) hp;have AH:=sm.trans rM;refine⟨p,_,Z,lX.of ko,Z,_,_,Z,_,_,Z,Z,?_⟩;refine⟨_,Z,_,Z,t,_,_,_,Z,Z,lX.of (AH _ _ ht),i0,a,tt,row,á,20000,20000,Z,kR.of (AH _ _ hh),kR.of (AH _ _ qk),by rw[rl.1,lt],J,rl.2,bt,O,O,fun H3 mJ=>?_⟩;refine⟨_,Z,t,_,_,_,Z,Z,lX.of (mJ _ _ (AH _ _ ht)),i1,_,Z,_,_,Z,Z,sX (N:=20000) (M:=20000) bb (bg v (ah hv)) O O,Z,?_⟩;refine kk _ _ (rM.trans mJ) ?_;rw[Uh,af,dH il];show some _=_
  dsimp only;rw[zbx mI,zbk hv];congr 1;exact decide_eq_decide.mpr ⟨fun e=>by rw[e],fun e=>by injection e⟩
 .intro D H2 sm _ hD;refine⟨D,zs,Z,kR.of hD,?_⟩
  by_cases al:∀i,i<k->zao (è.getD i []) á=b*zai ê i
  .have:zs.all id=true:=by
    rw[dL];intro z hz;rw[Uh] at hz;obtain⟨i,hi,rfl⟩:=List.mem_map.mp hz;exact b5 (al i (eD.mp hi))
   rw[this];exact qt H2 sm al
  .have:zs.all id=false:=by
    rcases e:zs.all id with _ | _
    .rfl
    .exfalso;rw[dL] at e;refine al fun i hi=>?_;have:=e (decide (zao (è.getD i []) á=b*zai ê i)) (by rw[Uh];exact dR.mpr ⟨i,eD.mpr hi,Z⟩);exact fk this
   rw[this];exact qf H2 sm al
theorem rC {N M:Nat}(h:Bd N l)(le:N<=M):Bd M l:=fun x hx=>bj (h x hx) (bU O le)
inductive QT (K:zdg)(vs:List V)(H:Hp)(Q:VK)(_:XK):Prop
 | mk (r u s:Addr)(è us:List (List Int))(ê:List Int)(k E N D B:Nat)(p:Int)(_:vs=[.ref r,.ref u,.int (p^E),.ref s])(_:mL H r è)(_:mL H u us)(_:H s=some (.lst (ê.map zaa)))(_:è.length=k)(_:∀row∈è,row.length=k/\Bd N row)(_:us.length=k)(_:∀row∈us,row.length=k/\Bd N row)(_:ê.length=k)(_:Bd N ê)(_:k<=420)(_:1<=N)(_:N<=9000)(_:64<=p^E)(_:Rx.Sc p k (zat è) (zaf ê) D B)(_:Mx.RI (p^E) k (zat è) (zat us))(_:1<=B)(_:128*((B:Int)*B)*(128*((B:Int)*B))*p^E<=2^N)(_:∀t tt H' á b,kD H H'->H' t=some (.tup [.ref tt,.int b])->H' tt=some (.lst (á.map zaa))->á.length=k->1<=b->b∣(D:Int)->b<2^N->Bd N á->(∀i:Nat,i<k->(zab k fun t=>zat è i t*zaf á t)=b*zaf ê i)->Q (.ref t) H')
theorem yJ (T:Txt K mg CF cN):Df P w K mg base 6 "solved" ["rows","undoing","modulus","goal"] (QT K):=by
 refine mf T.d_solved FR fun f cdv A outer s H vs Q E hr nd h=>?_;obtain⟨r,u,s',è,us,ê,k,E',N,D,B,p,rfl,hR,hU,hG,lr,lw,lu,lv,lg,bg,k4,N1,N2,m6,S,ri,B1,lim,q⟩:=h;obtain⟨as,h1,pa⟩:=id hR;obtain⟨bs,h2,pb⟩:=id hU;have la:=kQ pa;have lb:=kQ pb;have eN:=oR N;have p2:=S.hp.1;obtain⟨m,hm⟩:∃m:Int,m=p^E':=⟨_,Z⟩;rw[<-hm] at m6 ri lim ⊢;obtain⟨Lm,YW⟩:∃Lm:Int,Lm=128*((B:Int)*B):=⟨_,Z⟩;rw[<-YW] at lim;have Lm1:1<Lm:=by
  have:(1:Int)*1<=(B:Int)*B:=cL J J J J;lia
 have mN:m<2^N:=by
  have a:(2:Int)*2<=Lm*Lm:=cL J J J J;have:=aq a (show 0<=m by lia);lia
 have pw:∀d:Nat,m^d=p^(E'*d):=fun d=>by rw[hm,Int.pow_mul]
 have mp:∀d:Nat,1<=m^d:=fun d=>f7 J;have rb:∀i t:Nat,i<k->t<k->(zat è i t).natAbs<=2^N:=fun i t hi ht=>by
  rw[Rx.uV];have l:=lw _ (zbm (è:=è) (i:=i) J);exact eJ (l.2 _ (zbd J))
 have gb:∀i:Nat,i<k->(zaf ê i).natAbs<=2^N:=fun i hi=>by
  unfold zaf;rw[ae];exact eJ (bg _ (zbd J))
 have lfb:∀(d:Nat)(å left:List Int),left.length=k->Mx.zY k (zat è) (zaf ê) (m^d) (zaf å) (zaf left)->Bd (N+10) left:=fun d å left ll lif x hx=>by
  obtain⟨i,hi,e⟩:=zck hx;have:=Rx.J9 (mp d) lif rb gb i J;unfold zaf at this;rw[ae,e] at this;have e10:2^(N+10)=2^N*1024:=by rw[h8]
  have:k*2^N<=420*2^N:=cJ _ k4;have:=fI (n:=N) (show 0<2 by decide);lia
 have rsi:∀(d:Nat)(å left:List Int),å.length=k->Mx.zY k (zat è) (zaf ê) (m^d) (zaf å) (zaf left)->Rx.In (m^d) å:=fun d å left ll lif x hx=>by
  obtain⟨i,hi,e⟩:=zck hx;have:=lif.rg i J;unfold zaf at this;rwa [ae,e] at this
 have OO:∀d j:Nat,m^d<Lm->j<=d+1->m^(d+j)<2^N/\d<N:=fun d j lt le=>by
  have a:m^(d+j)<=m^(d+(d+1)):=by
   rw[show d+(d+1)=d+j+(d+1-j) by lia,eT m (d+j)];have:=ay (mp (d+1-j)) (show 0<=m^(d+j) by have:=mp (d+j);lia);lia
  have b:m^(d+(d+1))=m^d*m^d*m:=by rw[eT,bu,aK]
  have c:m^d*m^d<=(Lm-1)*(Lm-1):=cL J J (by have:=mp d;lia) J;have c2:(Lm-1)*(Lm-1)=Lm*Lm-2*Lm+1:=by grind
  have c3:=aq (show m^d*m^d<=Lm*Lm-1 by lia) (show 0<=m by lia);rw[cT] at c3;refine⟨J,?_⟩;have e1:m^d<=m^(d+(d+1)):=by
   rw[eT];have:=ay (mp (d+1)) (show 0<=m^d by have:=mp d;lia);lia
  have e2:(2:Int)^d<=m^d:=by
   have:=ie (show 2<=m.toNat by lia) d;have e3:((m.toNat^d:Nat):Int)=m^d:=by rw[dW,show ((m.toNat:Nat):Int)=m by lia]
   have e4:=oR d;lia
  have e4:=oR d;exact(Nat.pow_lt_pow_iff_right (a:=2) O).mp J
 refine⟨_,(kh (kU 4 nd (kK pJ (mF (lJ ks)) (oG T.b_len (pv 3)))) (kh (kU 5 nd (mE (kZ (pv 4) ks))) (kh (kU 6 nd (pv 3)) (kh (kU 7 nd ks) (kh (kU 8 nd ks) (kh (nW aJ (oW (oA (kW (xK T) hr (ki (pv 0) (ki (pv 3) (ki (pv 5) kS)))))) (kh (mD aJ Z (nM kf T.b_range (lJ (pv 8))) (mT 9 nd) (kh (kU 10 nd (om [("modulus",2),("left",6)] ["row"] (lG (pv 1)) (fun C s H fp=>⟨(oM 2),lC,(kK lO (kW (p6 T) hr (kZ (pv 2) (pv 1))) (pv 0))⟩))) (kh (kU 6 nd (om [("modulus",2),("more",10)] ["row","number"] (pH kf T.b_zip (kZ (pv 0) (pv 6))) (fun C s H fp=>⟨(uZ 2 3),lC,(kK lE (kK nV (pv 3) (kW (p6 T) hr (kZ (pv 2) (pv 1)))) (pv 0))⟩))) (kh (vV 4 [("scale",7)] ["number","beyond"] nd (pH kf T.b_zip (kZ (pv 4) (pv 10))) (fun C s H fp=>⟨(uZ 1 2),lC,(kK lU (pv 1) (kK lL (pv 0) (pv 2)))⟩)) (ky (kU 7 nd (kK lL (pv 7) (pv 2)))))))) (kh (kU 5 nd (kW (z4 T) hr (kZ (pv 4) (pv 7)))) (ky (kU 8 nd (kK lU (kK lU (pv 8) (kK lE (pv 8) ks)) ks)))))) (ky (kM (pv 5))))))))),?_⟩;refine⟨kC,fun lo zD=>⟨_,Z,s',_,Z,.inl (kR.of (ku (kD.refl _) zD _ _ hG)),?_⟩⟩;rw[aa,lg];refine⟨lo,_,_,Z,Z,ko,J,J,ziV,fun tr Ui=>?_⟩;rw[rep0];refine⟨_,Z,kq,fun t0 LG=>?_⟩;have PF:=ku (o:=.lst [zaa 0]) (kD.refl H) zD;have smR:=ku (o:=.lst ((List.replicate k (0:Int)).map zaa)) PF Ui;have rL:=ku (o:=.tup [zac tr,zaa 1]) smR LG;have yF:=ku (o:=.tup [zac tr,zaa 1]) (kD.refl _) LG _ _ (ko (H:=upd H lo (.lst [zaa 0])) (a:=tr) (o:=.lst ((List.replicate k (0:Int)).map zaa)));have hT0:upd (upd (upd H lo (.lst [zaa 0])) tr (.lst ((List.replicate k (0:Int)).map zaa))) t0 (.tup [zac tr,zaa 1]) t0=some (.tup [zac tr,zaa 1]):=ko;generalize upd (upd (upd H lo (.lst [zaa 0])) tr (.lst ((List.replicate k (0:Int)).map zaa))) t0 (.tup [zac tr,zaa 1])=H0 at rL yF hT0 ⊢;refine⟨_,Z,?_⟩;have YX:Mx.zY k (zat è) (zaf ê) (m^0) (zaf (List.replicate k (0:Int))) (zaf ê):=by
  have z:zaf (List.replicate k (0:Int))=fun _=>0:=by
   funext c;unfold zaf;rcases Nat.lt_or_ge c.toNat k with y | y
   .exact Rx.BX y
   .exact Rx.BE (by rw[aQ];exact y)
  rw[z,eY];exact Mx.zY.start ..
 refine⟨fun mm σ H'=>kD H H'/\∃(d à:Nat)(tr tl:Addr)(å left:List Int)(tv:V)(o1 o2:Option V),σ=[some (.ref r),some (.ref u),some (.int m),some (.ref s'),some (.ref tr),some tv,some (.ref tl),some (.int (m^d)),some (.int à),o1,o2]/\H' tr=some (.lst (å.map zaa))/\H' tl=some (.lst (left.map zaa))/\å.length=k/\left.length=k/\Mx.zY k (zat è) (zaf ê) (m^d) (zaf å) (zaf left)/\1<=à/\à<=d+1/\mm=(Lm-m^d).toNat /\
   ((tv=.non/\m^d<Lm)\/∃(t tt:Addr)(á:List Int)(b:Int),tv=.ref t/\H' t=some (.tup [.ref tt,.int b])/\H' tt=some (.lst (á.map zaa))/\á.length=k/\Bd N á/\1<=b/\b<2^N /\
    ((∀i:Nat,i<k->(zab k fun t=>zat è i t*zaf á t)=b*zaf ê i)->b∣(D:Int))/\(¬(∀i:Nat,i<k->(zab k fun t=>zat è i t*zaf á t)=b*zaf ê i)->m^d<Lm)),
  ⟨_,rL,0,1,tr,s',List.replicate k 0,ê,.ref t0,none,none,by rw[eY];rfl,yF,rL _ _ hG,aQ,lg,YX,aH 1,aH 1,Z,.inr ⟨t0,tr,List.replicate k 0,1,Z,hT0,yF,aQ,fun x hx=>by rw[(e8.mp hx).2];exact fI O,dj 1,J,fun _=>gn _,fun _=>by rw[eY];exact Lm1⟩⟩,?_⟩
 rintro mm σ H' ⟨sm,d,à,tr,tl,å,left,tv,o1,o2,rfl,JU,hl',DT,ll,lif,mn1,mn2,rfl,tok⟩;have eqs:∀(á:List Int)(b:Int),á.length=k->((∀i,i<k->zao (è.getD i []) á=b*zai ê i)↔∀i:Nat,i<k->(zab k fun t=>zat è i t*zaf á t)=b*zaf ê i):=fun á b lt=>by
  have e:∀i,i<k->(zao (è.getD i []) á=b*zai ê i↔(zab k fun t=>zat è i t*zaf á t)=b*zaf ê i):=fun i hi=>by
   rw[Rx.Dj lr (fun row h=>(lw row h).1) hi lt];unfold zaf;rw[ae]
  exact⟨fun h i hi=>(e i hi).mp (h i hi),fun h i hi=>(e i hi).mpr (h i hi)⟩
 have OP:∀row∈è,row.length=k/\Bd 20000 row:=fun row h=>⟨(lw row h).1,rC (lw row h).2 J⟩;have OQ:Bd 20000 ê:=rC bg J;have DU:∀Qq:VK,(∀H1,kD H' H1->m^d<Lm->Qq (.bl false) H1)->(∀H1 t tt á b,kD H' H1->tv=.ref t->H' t=some (.tup [.ref tt,.int b])->H' tt=some (.lst (á.map zaa))->á.length=k->Bd N á->1<=b->b<2^N->b∣(D:Int)->(∀i:Nat,i<k->(zab k fun t=>zat è i t*zaf á t)=b*zaf ê i)->Qq (.bl true) H1) ->
   Ib H' è ê k tv Qq:=fun Qq F Y=>by
  rcases tok with ⟨e,lt⟩ | ⟨t,tt,á,b,e,ht,qk,lt,bt,b1,b2,y,n⟩
  .exact .inl ⟨e,fun H1 s1=>F H1 s1 lt⟩
  .exact .inr ⟨t,tt,á,b,e,ht,qk,lt,rC bt J,bj (show b.natAbs<2^N by lia) (bU O J),fun H1 s1 al=>Y H1 t tt á b s1 e ht qk lt bt b1 b2 (y ((eqs á b lt).mp al)) ((eqs á b lt).mp al),fun H1 s1 al=>F H1 s1 (n fun z=>al ((eqs á b lt).mpr z))⟩
 clear tok;refine⟨_,Z,_,Z,_,Z,r,s',è,ê,k,tv,Z,hR.same sm,sm _ _ hG,lr,OP,lg,OQ,J,DU _ (fun H1 mQ lt=>?_) (fun H1 t tt á b mQ e ht qk lt bt b1 b2 bD sol=>?_)⟩
 rotate_left
 .refine⟨_,Z,nq O ?_⟩;subst e;exact⟨_,Z,q t tt H1 á b (sm.trans mQ) (mQ _ _ ht) (mQ _ _ qk) lt b1 bD b2 bt sol⟩
 refine⟨_,Z,qM O ⟨_,fun _ _ h=>h,?_⟩⟩;have LM:=sm.trans mQ;have dN:=(OO d 0 lt J).2;refine⟨_,Z,à,Z,J,J,rF (n:=à) (fun j σ H2=>kD H H2/\∃(tr tl:Addr)(å left:List Int)(o1 o2:Option V),σ=[some (.ref r),some (.ref u),some (.int m),some (.ref s'),some (.ref tr),some tv,some (.ref tl),some (.int (m^(d+j))),some (.int à),o1,o2]/\H2 tr=some (.lst (å.map zaa))/\H2 tl=some (.lst (left.map zaa))/\å.length=k/\left.length=k/\Mx.zY k (zat è) (zaf ê) (m^(d+j)) (zaf å) (zaf left)) ⟨LM,tr,tl,å,left,o1,o2,Z,mQ _ _ JU,mQ _ _ hl',DT,ll,lif⟩ ?_ ?_⟩
 .rintro j σ H2 hj ⟨mX,tr,tl,å,left,o1,o2,rfl,JU,hl',DT,ll,lif⟩;have Uj:=lfb (d+j) å left ll lif;have rin:=rsi (d+j) å left DT lif;have bg1:=OO d j lt J;have h2':=mX _ _ h2;refine⟨_,Z,u,Z,⟨_,kR.of h2'⟩,?_⟩;obtain⟨more,E7⟩:∃more:List Int,more=us.map fun u=>zao u left%m:=⟨_,Z⟩;have lm:more.length=k:=by rw[E7,aa,lu]
  have YY:Rx.In m more:=by rw[E7];intro x hx;obtain⟨y,_,rfl⟩:=List.mem_map.mp hx;exact⟨Int.emod_nonneg _ J,Int.emod_lt_of_pos _ J⟩
  refine mP (K:=K) (xs:=bs.map zac) more (by rw[lm,aa,lb,lu]) ziU (kR.of h2') ?_ ?_
  .intro i x H3 hx mJ R kk;obtain⟨a,row,rfl,ha,mI,hh⟩:=nF pb hx;have rl:=lv row (ah mI);exact⟨_,Z,_,Z,a,tl,row,left,N,N+10,Z,kR.of (mJ _ _ (mX _ _ hh)),kR.of (mJ _ _ hl'),by rw[rl.1,ll],J,rl.2,Uj,J,J,fun H4 nJ=>⟨_,Z,_,_,Z,Z,(show 0<m by lia),kk _ _ nJ (by rw[E7,af,mI];rfl)⟩⟩
  intro tm H3 mJ _ hm3;have Sq:=mJ _ _ (mX _ _ h1);have OR:=mJ _ _ hl';have mb:Bd N more:=fun x hx=>by have:=YY x hx;lia
  refine⟨_,Z,_,Z,r,tl,Z,⟨_,kR.of Sq⟩,⟨_,kR.of OR⟩,?_⟩;obtain⟨oU,JD⟩:∃oU:List Int,oU=List.zipWith (fun row x=>(x-zao row more)/m) è left:=⟨_,Z⟩;have ll':oU.length=k:=by rw[JD,dX,lr,ll,gf]
  refine qU (K:=K) (xs:=as.map zac) (ys:=left.map zaa) oU (by rw[aa,aa,la,lr,ll]) (by rw[ll',aa,la,lr]) ziU (kR.of Sq) (kR.of OR) ?_ ?_
  .intro i x y H4 pp hx hy nJ Ck R kk;obtain⟨a,row,rfl,ha,mI,hh⟩:=nF pa hx;obtain⟨v,rfl,hv⟩:=int_at hy;have rl:=lw row (ah mI);have rM:=ku (o:=.tup [.ref a,.int v]) (kD.refl H4) Ck;refine⟨pp,_,Z,lX.of ko,Z,_,_,Z,_,_,Z,Z,?_⟩;exact⟨_,Z,_,Z,_,Z,a,tm,row,more,N,N,Z,kR.of (rM _ _ (nJ _ _ (mJ _ _ (mX _ _ hh)))),kR.of (rM _ _ (nJ _ _ hm3)),by rw[rl.1,lm],J,rl.2,mb,J,J,fun H5 ol=>⟨_,_,Z,Z,_,Z,_,_,Z,Z,t7 J (show m.natAbs<2^N by lia) N2,kk _ _ (rM.trans ol) (by rw[JD,cm,mI,hv])⟩⟩
  intro tl2 H4 nJ _ Ue;have hr4:=nJ _ _ (mJ _ _ JU);have Uk:=nJ _ _ hm3;refine⟨_,Z,_,Z,tr,tm,Z,⟨_,kR.of hr4⟩,⟨_,kR.of Uk⟩,?_⟩;obtain⟨xZ,DV⟩:∃xZ:List Int,xZ=List.zipWith (fun r y=>r+m^(d+j)*y) å more:=⟨_,Z⟩;have Sr:xZ.length=k:=by rw[DV,dX,DT,lm,gf]
  refine qU (K:=K) (xs:=å.map zaa) (ys:=more.map zaa) xZ (by rw[aa,aa,DT,lm]) (by rw[Sr,aa,DT]) ziU (kR.of hr4) (kR.of Uk) ?_ ?_
  .intro i x y H5 pp hx hy ol Ck R kk;obtain⟨v1,rfl,hv1⟩:=int_at hx;obtain⟨v2,rfl,hv2⟩:=int_at hy;refine⟨pp,_,Z,lX.of ko,Z,_,_,Z,_,_,Z,Z,?_⟩;have:=mp (d+j);exact⟨_,Z,_,Z,_,Z,_,_,Z,Z,sX (N:=N+1) (M:=N) (by rw[dQ];lia) (mb v2 (ah hv2)) J J,_,_,Z,Z,kk _ _ (ku (kD.refl _) Ck) (by rw[DV,cm,hv1,hv2])⟩
  intro tr2 H5 ol _ PD;have:=mp (d+j);refine⟨_,Z,_,Z,_,_,Z,Z,sX (N:=N+1) (M:=N+1) (by rw[dQ];lia) (by rw[dQ];lia) J J,?_⟩;refine⟨((mX.trans mJ).trans nJ).trans ol,tr2,tl2,xZ,oU,some (zaa j),some (zac tm),?_,PD,ol _ _ Ue,Sr,ll',?_⟩
  .rw[show d+(j+1)=d+j+1 from Z,bu];rfl
  .rw[show d+(j+1)=d+j+1 from Z,bu,JD,DV];exact Rx.Jj J (mp (d+j)) lr (fun row h=>(lw row h).1) lu (fun row h=>(lv row h).1) DT ll ri lif E7
 .rintro σ H2 ⟨mX,tr,tl,å,left,o1,o2,rfl,JU,hl',DT,ll,lif⟩;have bg1:=OO d à lt mn2;have rin:=rsi (d+à) å left DT lif;have TM:64<=m^(d+à):=by
   rw[show d+à=d+à-1+1 by lia,bu];have:=aq (mp (d+à-1)) (show 0<=m by lia);lia
  have grow:m^d<m^(d+à):=by
   rw[eT];have a:m<=m^à:=by
    rw[show à=à-1+1 by lia,bu];have:=aq (mp (à-1)) (show 0<=m by lia);lia
   have:=ay (show 2<=m^à by lia) (show 0<=m^d by have:=mp d;lia);have:=mp d;lia
  have ew:=pw (d+à);have LN:=lif;rw[ew] at LN;have em:(à:Int)+(à:Int)/2+1=((à+à/2+1:Nat):Int):=J;have hm2:à+à/2+1<=d+à+1:=J;have fnm:∀(b:Int),zaf (å.map fun x=>zbs (x*b) (m^(d+à)))=fun t=>if t.toNat<k then zbs (zaf å t*b) (m^(d+à)) else 0:=fun b=>by
   funext t;unfold zaf
   by_cases c:t.toNat<k
   .rw[aB c,Rx.rY J]
   .rw[ak c,Rx.BE ziU]
  refine⟨_,Z,_,Z,tr,å,m^(d+à),N,Z,JU,J,rin,TM,N1,N2,bg1.1,fun Hh h2h HH H8=>⟨fun H3 l1 l2 b mJ el fr Hb=>?_,fun t tt H3 b mJ ht qk fr bH=>?_⟩⟩
  .have lt':m^(d+à)<Lm:=by
    rw[YW,ew];rw[ew] at fr HH H8;exact S.none LN DT el fr Hb J HH H8
   refine⟨_,Z,_,Z,_,_,Z,Z,lR O O,_,_,Z,Z,_,_,Z,Z,?_⟩;exact⟨(Lm-m^(d+à)).toNat,J,mX.trans mJ,d+à,à+à/2+1,tr,tl,å,left,.non,o1,o2,(by rw[<-em];rfl),mJ _ _ JU,mJ _ _ hl',DT,ll,lif,J,hm2,Z,.inl ⟨Z,lt'⟩⟩
  .have T7:Hh<=Hh*Hh:=by have:=aq (show 1<=Hh by lia) (show 0<=Hh by lia);lia
   have b0:=fr.pos J;have sc0:0<m^(d+à):=J;have key:(∀i:Nat,i<k->(zab k fun t=>zat è i t*zaf (å.map fun x=>zbs (x*b) (m^(d+à))) t)=b*zaf ê i)↔∀i:Nat,i<k->(zab k fun t=>zat è i t*zbs (zaf å t*b) (p^(E'*(d+à))))=b*zaf ê i:=by
    have e:∀i:Nat,(zab k fun t=>zat è i t*zaf (å.map fun x=>zbs (x*b) (m^(d+à))) t)=zab k fun t=>zat è i t*zbs (zaf å t*b) (p^(E'*(d+à))):=fun i=>zad fun t ht=>by
     rw[fnm,<-ew];dsimp only;rw[aB J]
    exact⟨fun h i hi=>by rw[<-e];exact h i hi,fun h i hi=>by rw[e];exact h i hi⟩
   refine⟨_,Z,_,Z,_,_,Z,Z,lR O O,_,_,Z,Z,_,_,Z,Z,?_⟩;refine⟨(Lm-m^(d+à)).toNat,J,mX.trans mJ,d+à,à+à/2+1,tr,tl,å,left,.ref t,o1,o2,(by rw[<-em];rfl),mJ _ _ JU,mJ _ _ hl',DT,ll,lif,J,hm2,Z,.inr ⟨t,tt,_,b,Z,ht,qk,by rw[aa,DT],fun x hx=>?_,J,J,fun sol=>?_,fun nsol=>?_⟩⟩
   .obtain⟨y,_,rfl⟩:=List.mem_map.mp hx;have r0:=aE (y*b) (show m^(d+à)≠0 by lia);have r1:=aA (y*b) sc0;unfold zbs;split<;>lia
   .have YZ:=key.mp sol;rw[ew] at fr HH;exact S.bot LN DT fr bH J HH YZ
   .rw[YW,ew];rw[ew] at fr HH H8;exact S.not LN DT fr J HH H8 fun z=>nsol (key.mpr z)
theorem Kk {X:Cx}{K:zdg}{e:Expr}{f:Str}{pos:Pos}{ta:TE}(h:X.K=K)(he:PE X e ta)(hb:attributeBase e f X.env (eval e X.env)=eval e X.env):PE X (.Attribute e f pos) (Qc K ta f):=by subst h;exact nH he hb
theorem pC (f:Str)(v:V):∀{fs:List (Str×V)}{n:Nat},fs.length<=n->(oa f v fs).length<=n+1
 | [],n,_=>by show 1<=n+1;lia
 | (g,x)::r,n,h=>by
  show (if g=f then (g,v)::r else (g,x)::oa f v r).length<=n+1
  rw[bE] at h;split
  .rw[bE];lia
  .rw[bE];have:=pC f v (fs:=r) (n:=n-1) J;lia
def F1 (w:Int):List (Str×V):=oa "size" (.int w) []
theorem G7 (w:Int):(F1 w).length<=1:=by
 unfold F1;exact pC _ _ (aH 0)
def F2 (w:Int)(p:Int):List (Str×V):=oa "prime" (.int p) (F1 w)
theorem Je (w:Int)(p:Int):(F2 w p).length<=2:=by
 unfold F2;exact pC _ _ (G7 w)
def F3 (w:Int)(p:Int)(fo:Addr):List (Str×V):=oa "found" (.ref fo) (F2 w p)
theorem Jh (w:Int)(p:Int)(fo:Addr):(F3 w p fo).length<=3:=by
 unfold F3;exact pC _ _ (Je w p)
def F4 (w:Int)(p:Int)(fo:Addr)(ch:Addr):List (Str×V):=oa "chosen" (.ref ch) (F3 w p fo)
theorem Hj (w:Int)(p:Int)(fo:Addr)(ch:Addr):(F4 w p fo ch).length<=4:=by
 unfold F4;exact pC _ _ (Jh w p fo)
def F5 (w:Int)(p:Int)(fo:Addr)(ch:Addr)(co:Addr):List (Str×V):=oa "columns" (.ref co) (F4 w p fo ch)
theorem Ip (w:Int)(p:Int)(fo:Addr)(ch:Addr)(co:Addr):(F5 w p fo ch co).length<=5:=by
 unfold F5;exact pC _ _ (Hj w p fo ch)
def F6 (w:Int)(p:Int)(fo:Addr)(ch:Addr)(co:Addr)(ro:Addr):List (Str×V):=oa "rows" (.ref ro) (F5 w p fo ch co)
theorem Iw (w:Int)(p:Int)(fo:Addr)(ch:Addr)(co:Addr)(ro:Addr):(F6 w p fo ch co ro).length<=6:=by
 unfold F6;exact pC _ _ (Ip w p fo ch co)
def F7 (w:Int)(p:Int)(fo:Addr)(ch:Addr)(co:Addr)(ro:Addr)(md:Int):List (Str×V):=oa "modulus" (.int md) (F6 w p fo ch co ro)
theorem Nh (w:Int)(p:Int)(fo:Addr)(ch:Addr)(co:Addr)(ro:Addr)(md:Int):(F7 w p fo ch co ro md).length<=7:=by
 unfold F7;exact pC _ _ (Iw w p fo ch co ro)
def F8 (w:Int)(p:Int)(fo:Addr)(ch:Addr)(co:Addr)(ro:Addr)(md:Int)(un:Addr):List (Str×V):=oa "undoing" (.ref un) (F7 w p fo ch co ro md)
theorem G8 (w:Int)(p:Int)(fo:Addr):(F3 w p fo).lookup ("found":Str)=some (.ref fo):=by
 unfold F3;rw[kJ,aB Z]
theorem Hq (w:Int)(p:Int)(fo:Addr)(ch:Addr):(F4 w p fo ch).lookup ("found":Str)=some (.ref fo):=by
 unfold F4;rw[kJ,ak kd];unfold F3;rw[kJ,aB Z]
theorem FL (w:Int)(p:Int)(fo:Addr)(ch:Addr)(co:Addr):(F5 w p fo ch co).lookup ("chosen":Str)=some (.ref ch):=by
 unfold F5;rw[kJ,ak kd];unfold F4;rw[kJ,aB Z]
theorem Dv (w:Int)(p:Int)(fo:Addr)(ch:Addr)(co:Addr):(F5 w p fo ch co).lookup ("columns":Str)=some (.ref co):=by
 unfold F5;rw[kJ,aB Z]
theorem Ly (w:Int)(p:Int)(fo:Addr)(ch:Addr)(co:Addr)(ro:Addr)(md:Int):(F7 w p fo ch co ro md).lookup ("rows":Str)=some (.ref ro):=by
 unfold F7;rw[kJ,ak kd];unfold F6;rw[kJ,aB Z]
theorem DO (w:Int)(p:Int)(fo:Addr)(ch:Addr)(co:Addr)(ro:Addr)(md:Int):(F7 w p fo ch co ro md).lookup ("modulus":Str)=some (.int md):=by
 unfold F7;rw[kJ,aB Z]
theorem Ka (w:Int)(p:Int)(fo:Addr)(ch:Addr)(co:Addr)(ro:Addr)(md:Int)(un:Addr):(F8 w p fo ch co ro md un).lookup ("size":Str)=some (.int w):=by
 unfold F8;rw[kJ,ak kd];unfold F7;rw[kJ,ak kd];unfold F6;rw[kJ,ak kd];unfold F5;rw[kJ,ak kd];unfold F4;rw[kJ,ak kd];unfold F3;rw[kJ,ak kd];unfold F2;rw[kJ,ak kd];unfold F1;rw[kJ,aB Z]
theorem GB (w:Int)(p:Int)(fo:Addr)(ch:Addr)(co:Addr)(ro:Addr)(md:Int)(un:Addr):(F8 w p fo ch co ro md un).lookup ("prime":Str)=some (.int p):=by
 unfold F8;rw[kJ,ak kd];unfold F7;rw[kJ,ak kd];unfold F6;rw[kJ,ak kd];unfold F5;rw[kJ,ak kd];unfold F4;rw[kJ,ak kd];unfold F3;rw[kJ,ak kd];unfold F2;rw[kJ,aB Z]
theorem GG (w:Int)(p:Int)(fo:Addr)(ch:Addr)(co:Addr)(ro:Addr)(md:Int)(un:Addr):(F8 w p fo ch co ro md un).lookup ("found":Str)=some (.ref fo):=by
 unfold F8;rw[kJ,ak kd];unfold F7;rw[kJ,ak kd];unfold F6;rw[kJ,ak kd];unfold F5;rw[kJ,ak kd];unfold F4;rw[kJ,ak kd];unfold F3;rw[kJ,aB Z]
theorem zf (w:Int)(p:Int)(fo:Addr)(ch:Addr)(co:Addr)(ro:Addr)(md:Int)(un:Addr):(F8 w p fo ch co ro md un).lookup ("chosen":Str)=some (.ref ch):=by
 unfold F8;rw[kJ,ak kd];unfold F7;rw[kJ,ak kd];unfold F6;rw[kJ,ak kd];unfold F5;rw[kJ,ak kd];unfold F4;rw[kJ,aB Z]
theorem xf (w:Int)(p:Int)(fo:Addr)(ch:Addr)(co:Addr)(ro:Addr)(md:Int)(un:Addr):(F8 w p fo ch co ro md un).lookup ("columns":Str)=some (.ref co):=by
 unfold F8;rw[kJ,ak kd];unfold F7;rw[kJ,ak kd];unfold F6;rw[kJ,ak kd];unfold F5;rw[kJ,aB Z]
theorem EQ (w:Int)(p:Int)(fo:Addr)(ch:Addr)(co:Addr)(ro:Addr)(md:Int)(un:Addr):(F8 w p fo ch co ro md un).lookup ("rows":Str)=some (.ref ro):=by
 unfold F8;rw[kJ,ak kd];unfold F7;rw[kJ,ak kd];unfold F6;rw[kJ,aB Z]
theorem xR (w:Int)(p:Int)(fo:Addr)(ch:Addr)(co:Addr)(ro:Addr)(md:Int)(un:Addr):(F8 w p fo ch co ro md un).lookup ("modulus":Str)=some (.int md):=by
 unfold F8;rw[kJ,ak kd];unfold F7;rw[kJ,aB Z]
theorem xg (w:Int)(p:Int)(fo:Addr)(ch:Addr)(co:Addr)(ro:Addr)(md:Int)(un:Addr):(F8 w p fo ch co ro md un).lookup ("undoing":Str)=some (.ref un):=by
 unfold F8;rw[kJ,aB Z]
theorem FM (w:Int)(p:Int)(fo:Addr)(ch:Addr)(co:Addr)(ro:Addr)(md:Int)(un:Addr):(F8 w p fo ch co ro md un).lookup ("missed":Str)=none:=by
 unfold F8;rw[kJ,ak kd];unfold F7;rw[kJ,ak kd];unfold F6;rw[kJ,ak kd];unfold F5;rw[kJ,ak kd];unfold F4;rw[kJ,ak kd];unfold F3;rw[kJ,ak kd];unfold F2;rw[kJ,ak kd];unfold F1;rw[kJ,ak kd];rfl
theorem zg (w:Int)(p:Int)(fo:Addr)(ch:Addr)(co:Addr)(ro:Addr)(md:Int)(un:Addr):(F8 w p fo ch co ro md un).lookup ("counts":Str)=none:=by
 unfold F8;rw[kJ,ak kd];unfold F7;rw[kJ,ak kd];unfold F6;rw[kJ,ak kd];unfold F5;rw[kJ,ak kd];unfold F4;rw[kJ,ak kd];unfold F3;rw[kJ,ak kd];unfold F2;rw[kJ,ak kd];unfold F1;rw[kJ,ak kd];rfl
theorem wM (w:Int)(p:Int)(fo:Addr)(ch:Addr)(co:Addr)(ro:Addr)(md:Int)(un:Addr):(F8 w p fo ch co ro md un).lookup ("weights":Str)=none:=by
 unfold F8;rw[kJ,ak kd];unfold F7;rw[kJ,ak kd];unfold F6;rw[kJ,ak kd];unfold F5;rw[kJ,ak kd];unfold F4;rw[kJ,ak kd];unfold F3;rw[kJ,ak kd];unfold F2;rw[kJ,ak kd];unfold F1;rw[kJ,ak kd];rfl
structure xL (C:Addr)(H:Hp)(x:Addr)(p:Int)(w:Nat)(é:List (List Int))(fs:List zau)(us:List (List Int)):Prop where
 ex:∃dx fo ch co ro un,H x=some (.ins C dx (F8 w p fo ch co ro (p^16) un))/\r9 H fo fs/\H ch=some (.lst ((ni (zag fs)).map zaa))/\H co=some (.lst ((ni (zaq fs)).map zaa))/\mL H ro (zas é fs)/\mL H un us
theorem xL.same {C:Addr}{H H':Hp}(sm:kD H H'){x:Addr}{p:Int}{w:Nat}{é:List (List Int)}{fs:List zau}{us:List (List Int)}(h:xL C H x p w é fs us):xL C H' x p w é fs us:=by
 obtain⟨dx,fo,ch,co,ro,un,a,b,c,d,e,f⟩:=h.ex;exact⟨dx,fo,ch,co,ro,un,sm _ _ a,b.same sm,sm _ _ c,sm _ _ d,e.same sm,f.same sm⟩
theorem n4 {H:Hp}{x b C dx:Addr}{fs:List (Str×V)}{l:List V}{o:HO}(hx:H x=some (.ins C dx fs))(hb:H b=some (.lst l)):upd H x o b=some (.lst l):=(kO (oB hb hx (by intro z;cases z))).trans hb
theorem rE {H:Hp}{x C dx:Addr}{fs:List (Str×V)}{o:HO}(hx:H x=some (.ins C dx fs))(h:mL H r è):mL (upd H x o) r è :=
 let ⟨as,h1,h2⟩:=h;⟨as,n4 hx h1,oz h2 fun _ _ z=>n4 hx z⟩
theorem r9.Pf {H:Hp}{x C dx:Addr}{fl:List (Str×V)}{o:HO}(hx:H x=some (.ins C dx fl)){fs:List zau}(h:r9 H r fs):r9 (upd H x o) r fs :=
 let ⟨as,h1,h2⟩:=h;⟨as,n4 hx h1,oz h2 fun _ _ ⟨b,u,v⟩=>⟨b,(kO (oB u hx (by intro z;cases z))).trans u,n4 hx v⟩⟩
def Kx (x:Addr)(H H':Hp):Prop:=∀b o,H b=some o->b≠x->H' b=some o
theorem Kx.upd {x:Addr}{H H':Hp}(h:Kx x H H')(o:HO):Kx x H (upd H' x o):=fun b u e ne=>by rw[kO ne];exact h b u e ne
theorem Kx.same {x:Addr}{H H' H'':Hp}(h:Kx x H H')(sm:kD H' H''):Kx x H H'':=fun b u e ne=>sm _ _ (h b u e ne)
structure MB (p:Int)(w N:Nat)(é:List (List Int))(fs:List zau)(us:List (List Int)):Prop where
 crn:Rx.rD p w é é.length fs
 ul:us.length=fs.length
 uw:∀u∈us,u.length=fs.length/\Bd N u
 li:Mx.LI (p^16) fs.length (zat us) (zat (zas é fs))
theorem zX {p:Int}{w N:Nat}{é:List (List Int)}{fs:List zau}(h:Rx.rD p w é é.length fs)(lw:∀x∈é,x.length=w/\Bd N x):∀row∈zas é fs,row.length=fs.length/\Bd N row:=fun row mI=>by
 refine⟨zby.2 row mI,fun y hy=>?_⟩;unfold zas at mI;obtain⟨f,hf,rfl⟩:=List.mem_map.mp mI;obtain⟨c,hc,rfl⟩:=List.mem_map.mp hy;have l:=lw _ (zbm (è:=é) (h.lt f hf));exact l.2 _ (zbd (by rw[l.1];exact zcq h c hc))
inductive Of (C:Addr)(vs:List V)(H:Hp)(Q:VK)(_:XK):Prop
 | mk (x s dx:Addr)(é:List (List Int))(p:Int)(w N:Nat)(_:vs=[.ref x,.ref s,.int w,.int p])(_:H x=some (.ins C dx []))(_:mL H s é)(_:∀y∈é,y.length=w/\Bd N y)(_:w<=420)(_:é.length<=20000)(_:zak p)(_:p<2^30)(_:480<=N)(_:N<=9000)(_:∀H' fs us,Kx x H H'->xL C H' x p w é fs us->MB p w N é fs us->Q .non H')
theorem yw (T:Txt K mg CF cN):Kf P w K mg base 6 CF "Frame" ["self","steps","size","prime"] (Of CF):=by
 refine T.m_Frame_init.ok tE (fun vs H Q E h=>?_) (fun f cdv A outer s H vs Q E hr h=>?_)
 .obtain⟨_,_,_,_,_,_,_,rfl,_⟩:=h;rfl
 obtain⟨x,s',dx,é,p,w',N,rfl,hx,hS,lw,w4,ls,hp,JX,N4,N9,q⟩:=h;have p2:=hp.1;have nd:=tE.nd;have p16:p^16<2^N:=by
  have a:=ju (show p.toNat<2^30 by lia) (show 16≠0 by decide);have b:=bU (n:=2) O N4;have c:((p.toNat^16:Nat):Int)=p^16:=by rw[dW,show ((p.toNat:Nat):Int)=p by lia]
  have d:(2^30)^16=2^480:=by rw[<-Nat.pow_mul]
  rw[d] at a;have e:=oR N;have:=bj a b;lia
 refine⟨_,(kh (sL (pv 0) (pv 2) Z) (kh (sL (pv 0) (pv 3) Z) (kh (sL (pv 0) (kW (Cs T) hr (kZ (pv 1) (pv 3))) Z) (kh (sL (pv 0) (om [] ["number","column","row"] (lG (nH (pv 0) Z)) (fun C s H fp=>⟨(nI Z (kX (oZ (i:=0) (show (["number","column","row"]:List Str).Nodup by decide +kernel) Z (Or.inl Z) (Or.inr Z)) (kX (oZ (i:=1) (show (["number","column","row"]:List Str).Nodup by decide +kernel) Z (Or.inl Z) (Or.inr Z)) (kX (oZ (i:=2) (show (["number","column","row"]:List Str).Nodup by decide +kernel) Z (Or.inl Z) (Or.inr Z)) mS)))),lC,(pv 0)⟩) (hl:=(qC O O O))) Z) (kh (sL (pv 0) (om [] ["number","column","row"] (lG (nH (pv 0) Z)) (fun C s H fp=>⟨(nI Z (kX (oZ (i:=0) (show (["number","column","row"]:List Str).Nodup by decide +kernel) Z (Or.inl Z) (Or.inr Z)) (kX (oZ (i:=1) (show (["number","column","row"]:List Str).Nodup by decide +kernel) Z (Or.inl Z) (Or.inr Z)) (kX (oZ (i:=2) (show (["number","column","row"]:List Str).Nodup by decide +kernel) Z (Or.inl Z) (Or.inr Z)) mS)))),lC,(pv 1)⟩) (hl:=(qC O O O))) Z) (kh (sL (pv 0) (om [("steps",1),("self",0)] ["number"] (lG (nH (pv 0) Z)) (fun C s H fp=>⟨(oM 2),lC,(kW (va T) hr (kZ (k7 (qj (K:=K) Z) (pv 0) (pv 2)) (Kk (K:=K) Z (pv 1) Z)))⟩)) Z) (kh (sL (pv 0) (kK Dq (pv 3) ks) Z) (ky (sL (pv 0) (kW (xp T) hr (kZ (nH (pv 0) Z) (nH (pv 0) Z))) Z))))))))),?_⟩
 -- size,prime
 refine⟨_,Z,_,Z,x,CF,dx,[],Z,hx,T.cl_Frame,T.na_size,(by show 0<1000;decide),?_⟩;have k1:Kx x H (upd H x (.ins CF dx (F1 w'))):=Kx.upd (fun b o e _=>e) _;have x1:upd H x (.ins CF dx (F1 w')) x=some (.ins CF dx (F1 w')):=ko;have S1:mL (upd H x (.ins CF dx (F1 w'))) s' é:=rE hx hS;show _
 have e1:upd H x (.ins CF dx (oa "size" (.int w') []))=upd H x (.ins CF dx (F1 w')):=Z;rw[e1];generalize upd H x (.ins CF dx (F1 w'))=H1 at k1 x1 S1 ⊢;refine⟨_,Z,_,Z,x,CF,dx,_,Z,x1,T.cl_Frame,T.na_prime,cf (G7 _) O,?_⟩;have k2:Kx x H (upd H1 x (.ins CF dx (F2 w' p))):=k1.upd _;have x2:upd H1 x (.ins CF dx (F2 w' p)) x=some (.ins CF dx (F2 w' p)):=ko;have S2:mL (upd H1 x (.ins CF dx (F2 w' p))) s' é:=rE x1 S1;have e2:upd H1 x (.ins CF dx (oa "prime" (.int p) (F1 w')))=upd H1 x (.ins CF dx (F2 w' p)):=Z;rw[e2];generalize upd H1 x (.ins CF dx (F2 w' p))=H2 at k2 x2 S2 ⊢
 -- found
 refine⟨_,Z,_,Z,s',é,p,w',N,Z,S2,fun y hy=>(lw y hy).1,J,ls,hp,by have e:=oR N;have:=bU (n:=2) O (show 30<=N by lia);lia,J,N9,fun fo H3 fs mJ nfo hfo crn=>?_⟩;have kl:=crn.fr.Fy hp;have x3:=mJ _ _ x2;refine⟨_,Z,x,CF,dx,_,Z,x3,T.cl_Frame,T.na_found,cf (Je _ _) O,?_⟩;have k4:Kx x H (upd H3 x (.ins CF dx (F3 w' p fo))):=(k2.same mJ).upd _;have x4:upd H3 x (.ins CF dx (F3 w' p fo)) x=some (.ins CF dx (F3 w' p fo)):=ko;have S4:mL (upd H3 x (.ins CF dx (F3 w' p fo))) s' é:=rE x3 (S2.same mJ);have f4:r9 (upd H3 x (.ins CF dx (F3 w' p fo))) fo fs:=hfo.Pf x3;have e3:upd H3 x (.ins CF dx (oa "found" (.ref fo) (F2 w' p)))=upd H3 x (.ins CF dx (F3 w' p fo)):=Z;rw[e3];generalize upd H3 x (.ins CF dx (F3 w' p fo))=H4 at k4 x4 S4 f4 ⊢
 -- chosen
 obtain⟨as,fa,fp⟩:=id f4;have la:=kQ fp;refine⟨_,Z,x,CF,dx,_,_,Z,x4,T.cl_Frame,T.na_found,G8 _ _ _,fo,Z,⟨_,kR.of fa⟩,?_⟩;refine mP (K:=K) (xs:=as.map zac) (ni (zag fs)) (by rw[aa,aa];unfold zag;rw[List.length_map,la]) (by rw[List.length_map];lia) (kR.of fa) ?_ ?_
 .intro i y H5 hy ol R kk;obtain⟨a,rfl,ha⟩:=pI hy;obtain⟨f,hf,b,ht,hb⟩:=mj fp ha;exact⟨a,_,Z,lX.of (ol _ _ ht),Z,_,_,Z,_,_,Z,_,_,Z,Z,_,Z,kk _ _ (kD.refl _) (by unfold zag;rw[List.getElem?_map,List.getElem?_map,hf];rfl)⟩
 intro ch H5 ol _ AQ;have x5:=ol _ _ x4;refine⟨_,Z,x,CF,dx,_,Z,x5,T.cl_Frame,T.na_chosen,cf (Jh _ _ _) O,?_⟩;have k6:Kx x H (upd H5 x (.ins CF dx (F4 w' p fo ch))):=(k4.same ol).upd _;have x6:upd H5 x (.ins CF dx (F4 w' p fo ch)) x=some (.ins CF dx (F4 w' p fo ch)):=ko;have S6:mL (upd H5 x (.ins CF dx (F4 w' p fo ch))) s' é:=rE x5 (S4.same ol);have f6:r9 (upd H5 x (.ins CF dx (F4 w' p fo ch))) fo fs:=(f4.same ol).Pf x5;have c6:upd H5 x (.ins CF dx (F4 w' p fo ch)) ch=some (.lst ((ni (zag fs)).map zaa)):=n4 x5 AQ;have e4:upd H5 x (.ins CF dx (oa "chosen" (.ref ch) (F3 w' p fo)))=upd H5 x (.ins CF dx (F4 w' p fo ch)):=Z;rw[e4];generalize upd H5 x (.ins CF dx (F4 w' p fo ch))=H6 at k6 x6 S6 f6 c6 ⊢
 -- columns
 obtain⟨as,fa,fp⟩:=id f6;have la:=kQ fp;refine⟨_,Z,x,CF,dx,_,_,Z,x6,T.cl_Frame,T.na_found,Hq _ _ _ _,fo,Z,⟨_,kR.of fa⟩,?_⟩;refine mP (K:=K) (xs:=as.map zac) (ni (zaq fs)) (by rw[aa,aa];unfold zaq;rw[List.length_map,la]) (by rw[List.length_map];lia) (kR.of fa) ?_ ?_
 .intro i y H7 hy se R kk;obtain⟨a,rfl,ha⟩:=pI hy;obtain⟨f,hf,b,ht,hb⟩:=mj fp ha;exact⟨a,_,Z,lX.of (se _ _ ht),Z,_,_,Z,_,_,Z,_,_,Z,Z,_,Z,kk _ _ (kD.refl _) (by unfold zaq;rw[List.getElem?_map,List.getElem?_map,hf];rfl)⟩
 intro co H7 se _ Su;have x7:=se _ _ x6;refine⟨_,Z,x,CF,dx,_,Z,x7,T.cl_Frame,T.na_columns,cf (Hj _ _ _ _) O,?_⟩;have k8:Kx x H (upd H7 x (.ins CF dx (F5 w' p fo ch co))):=(k6.same se).upd _;have x8:upd H7 x (.ins CF dx (F5 w' p fo ch co)) x=some (.ins CF dx (F5 w' p fo ch co)):=ko;have S8:mL (upd H7 x (.ins CF dx (F5 w' p fo ch co))) s' é:=rE x7 (S6.same se);have f8:r9 (upd H7 x (.ins CF dx (F5 w' p fo ch co))) fo fs:=(f6.same se).Pf x7;have c8:upd H7 x (.ins CF dx (F5 w' p fo ch co)) ch=some (.lst ((ni (zag fs)).map zaa)):=n4 x7 (se _ _ c6);have o8:upd H7 x (.ins CF dx (F5 w' p fo ch co)) co=some (.lst ((ni (zaq fs)).map zaa)):=n4 x7 Su;have e5:upd H7 x (.ins CF dx (oa "columns" (.ref co) (F4 w' p fo ch)))=upd H7 x (.ins CF dx (F5 w' p fo ch co)):=Z;rw[e5];generalize upd H7 x (.ins CF dx (F5 w' p fo ch co))=H8 at k8 x8 S8 f8 c8 o8 ⊢
 -- è
 obtain⟨ss,sa,sp⟩:=id S8;have lss:=kQ sp;have LO:(zag fs).length=fs.length:=by unfold zag;rw[List.length_map]
 refine⟨_,Z,x,CF,dx,_,_,Z,x8,T.cl_Frame,T.na_chosen,FL _ _ _ _ _,ch,Z,⟨_,kR.of c8⟩,?_⟩;refine p9 (K:=K) (xs:=(ni (zag fs)).map zaa) (zas é fs) (by rw[zby.1,aa,aa,LO]) (by rw[aa,aa,LO];lia) (kR.of c8) ?_ ?_
 .intro i y H9 hy wb R kk;obtain⟨n,rfl,hn⟩:=IW hy;have il:i<fs.length:=by rw[<-LO];exact(aF.mp hn).1
  obtain⟨f,hf⟩:∃f,fs[i]?=some f:=⟨_,List.getElem?_eq_getElem il⟩;have en:n=f.1:=by
   unfold zag at hn;rw[af,hf] at hn;exact(bL hn).symm
  subst en;have fl:=crn.lt f (ah hf);obtain⟨a,LL,ha⟩:=wJ sp (zbz fl);have ll:=lw _ (zbm (è:=é) fl);refine⟨_,Z,_,Z,s',_,_,_,Z,Z,kR.of (wb _ _ sa),LL,_,Z,x,CF,dx,_,_,Z,wb _ _ x8,T.cl_Frame,T.na_columns,Dv _ _ _ _ _,a,co,_,zaq fs,Z,kR.of (wb _ _ ha),wb _ _ o8,fun c hc=>by rw[aa,ll.1];exact zcq crn c hc,by unfold zaq;rw[List.length_map];lia,fun t AT AI _ h10=>?_⟩;rw[GT _ _ fun c hc=>by rw[ll.1];exact zcq crn c hc] at h10;exact kk AT t _ AI (by unfold zas;rw[List.getElem?_map,hf];rfl) h10
 intro ro H9 wb _ Gq;have x9:=wb _ _ x8;refine⟨_,Z,x,CF,dx,_,Z,x9,T.cl_Frame,T.na_rows,cf (Ip _ _ _ _ _) O,?_⟩;have k10:Kx x H (upd H9 x (.ins CF dx (F6 w' p fo ch co ro))):=(k8.same wb).upd _;have PJ:upd H9 x (.ins CF dx (F6 w' p fo ch co ro)) x=some (.ins CF dx (F6 w' p fo ch co ro)):=ko;have f10:r9 (upd H9 x (.ins CF dx (F6 w' p fo ch co ro))) fo fs:=(f8.same wb).Pf x9;have Y0:upd H9 x (.ins CF dx (F6 w' p fo ch co ro)) ch=some (.lst ((ni (zag fs)).map zaa)):=n4 x9 (wb _ _ c8);have o10:upd H9 x (.ins CF dx (F6 w' p fo ch co ro)) co=some (.lst ((ni (zaq fs)).map zaa)):=n4 x9 (wb _ _ o8);have T8:mL (upd H9 x (.ins CF dx (F6 w' p fo ch co ro))) ro (zas é fs):=rE x9 Gq;have e6:upd H9 x (.ins CF dx (oa "rows" (.ref ro) (F5 w' p fo ch co)))=upd H9 x (.ins CF dx (F6 w' p fo ch co ro)):=Z;rw[e6];generalize upd H9 x (.ins CF dx (F6 w' p fo ch co ro))=AT at k10 PJ f10 Y0 o10 T8 ⊢
 -- modulus
 refine⟨_,Z,_,_,Z,Z,⟨O,O,J⟩,_,Z,x,CF,dx,_,Z,PJ,T.cl_Frame,T.na_modulus,cf (Iw _ _ _ _ _ _) O,?_⟩;have k11:Kx x H (upd AT x (.ins CF dx (F7 w' p fo ch co ro (p^16)))):=k10.upd _;have Ul:upd AT x (.ins CF dx (F7 w' p fo ch co ro (p^16))) x=some (.ins CF dx (F7 w' p fo ch co ro (p^16))):=ko;have f11:r9 (upd AT x (.ins CF dx (F7 w' p fo ch co ro (p^16)))) fo fs:=f10.Pf PJ;have c11:upd AT x (.ins CF dx (F7 w' p fo ch co ro (p^16))) ch=some (.lst ((ni (zag fs)).map zaa)):=n4 PJ Y0;have o11:upd AT x (.ins CF dx (F7 w' p fo ch co ro (p^16))) co=some (.lst ((ni (zaq fs)).map zaa)):=n4 PJ o10;have Y1:mL (upd AT x (.ins CF dx (F7 w' p fo ch co ro (p^16)))) ro (zas é fs):=rE PJ T8;have e7:upd AT x (.ins CF dx (oa "modulus" ((fun (i j:Int)=>zaa (i^j.toNat)) p 16) (F6 w' p fo ch co ro)))=upd AT x (.ins CF dx (F7 w' p fo ch co ro (p^16))):=Z;rw[e7];generalize upd AT x (.ins CF dx (F7 w' p fo ch co ro (p^16)))=vQ at k11 Ul f11 c11 o11 Y1 ⊢
 -- undoing
 refine⟨_,Z,x,CF,dx,_,_,Z,Ul,T.cl_Frame,T.na_rows,Ly _ _ _ _ _ _ _,_,Z,x,CF,dx,_,_,Z,Ul,T.cl_Frame,T.na_modulus,DO _ _ _ _ _ _ _,ro,zas é fs,fs.length,16,N,p,Z,Y1,zby.1,zX crn lw,J,O,hp,p16,J,N9,fun c hc=>crn.ind c hc,fun un Y2 us ow _ uI ul uw li=>?_⟩;have PK:=ow _ _ Ul;refine⟨_,Z,x,CF,dx,_,Z,PK,T.cl_Frame,T.na_undoing,cf (Nh _ _ _ _ _ _ _) O,?_⟩;refine q _ fs us ((k11.same ow).upd _) ⟨dx,fo,ch,co,ro,un,ko,(f11.same ow).Pf PK,n4 PK (ow _ _ c11),n4 PK (ow _ _ o11),rE PK (Y1.same ow),rE PK uI⟩ ⟨crn,ul,uw,li⟩
structure Nb (p:Int)(k D C G B N:Nat):Prop where
 DB:D<=B
 big:k*(D*(zaw k C*G))<=B
 B1:1<=B
 lim:128*((B:Int)*B)*(128*((B:Int)*B))*p^16<=2^N
 GN:G<2^N
 N1:480<=N
 N2:N<=9000
theorem G6 {N k:Nat}(lr:è.length=k)(lw:∀row∈è,row.length=k/\Bd N row):∀row∈zcj k è,row.length=k/\Bd N row:=fun row h=>by
 refine⟨(Rx.Ar lr).2 row h,fun x hx=>?_⟩;unfold zcj at h;obtain⟨c,hc,rfl⟩:=List.mem_map.mp h;obtain⟨y,hy,rfl⟩:=List.mem_map.mp hx;exact(lw y hy).2 _ (zbd (by rw[(lw y hy).1];exact eD.mp hc))
inductive Oo (C:Addr)(vs:List V)(H:Hp)(Q:VK)(_:XK):Prop
 | mk (x s:Addr)(é:List (List Int))(fs:List zau)(us:List (List Int))(ê:List Int)(p:Int)(w N:Nat)(_:vs=[.ref x,.ref s])(_:xL C H x p w é fs us)(_:MB p w N é fs us)(_:zak p)(_:p<2^30)(_:480<=N)(_:N<=9000)(_:w<=420)(_:H s=some (.lst (ê.map zaa)))(_:ê.length=w)(_:∀(c:Nat) H',kD H H'->c<w->zai (zbe p fs ê) c≠0->Q (.int c) H')(_:∀H',kD H H'->(∀c,c<w->zai (zbe p fs ê) c=0)->Q .non H')
theorem v9 (T:Txt K mg CF cN):Mf P w K mg base 3 CF "missed" ["self","goal"] (Oo CF):=by
 refine T.m_Frame_missed.ok rW (fun vs H Q E h=>?_) (fun f cdv A outer s H vs Q E hr h=>?_)
 .obtain⟨_,_,_,_,_,_,_,_,_,rfl,_⟩:=h;rfl
 obtain⟨x,s',é,fs,us,ê,p,w',N,rfl,fa,fo,hp,JX,N4,N9,w4,hg,lg,q1,q2⟩:=h;obtain⟨dx,ff,ch,co,ro,un,hx,hf,_⟩:=fa.ex;have p2:=hp.1;have nd:=rW.nd;refine⟨_,(ky (kM (kW (rQ T) hr (lJ (kW (xI T) hr (ki (pv 1) (ki (nH (pv 0) Z) (ki (nH (pv 0) Z) kS)))))))),?_⟩;refine⟨_,Z,_,Z,x,CF,dx,_,_,Z,hx,T.cl_Frame,T.na_found,GG _ _ _ _ _ _ _ _,_,Z,x,CF,dx,_,_,Z,hx,T.cl_Frame,T.na_prime,GB _ _ _ _ _ _ _ _,s',ff,ê,fs,p,w',30,Z,hg,hf,fo.crn.rok,lg,J,J,JX,O,fun t H1 mQ h1=>?_⟩;have ok:=Rx.tY (show 0<p by lia) lg Z fo.crn.rok;refine⟨t,_,Z,h1,J,fun c H2 mX hc nz=>q1 c H2 (mQ.trans mX) J nz,fun H2 mX z=>q2 H2 (mQ.trans mX) fun c hc=>z c J⟩
inductive QN (C:Addr)(vs:List V)(H:Hp)(Q:VK)(_:XK):Prop
 | mk (x s:Addr)(é:List (List Int))(fs:List zau)(us:List (List Int))(ê:List Int)(p:Int)(w N D Cc G B:Nat)(_:vs=[.ref x,.ref s])(_:xL C H x p w é fs us)(_:MB p w N é fs us)(_:zcy p w é fs us D Cc)(_:Nb p fs.length D Cc G B N)(_:∀y∈é,y.length=w/\Bd N y)(_:w<=420)(_:1000<=p)(_:H s=some (.lst (ê.map zaa)))(_:ê.length=w)(_:∀c,c<w->(zai ê c).natAbs<=G)(_:∀t tt H' á b,kD H H'->H' t=some (.tup [.ref tt,.int b])->H' tt=some (.lst (á.map zaa))->á.length=fs.length->1<=b->b∣(D:Int)->b<2^N->Bd N á->(∀i:Nat,i<fs.length->(zab fs.length fun t=>zan é (zay fs t.toNat) (zar fs i)*zaf á t)=b*zai ê (zar fs i))->Q (.ref t) H')
theorem TM {p:Int}(p2:1000<=p):64<=p^16:=by
 rw[bu];have:1<=p^15:=f7 J;have:=aq this (show 0<=p by lia);lia
theorem r6 (T:Txt K mg CF cN):Mf P w K mg base 7 CF "counts" ["self","goal"] (QN CF):=by
 refine T.m_Frame_counts.ok rX (fun vs H Q E h=>?_) (fun f cdv A outer s H vs Q E hr h=>?_)
 .obtain⟨_,_,_,_,_,_,_,_,_,_,_,_,_,rfl,_⟩:=h;rfl
 obtain⟨x,s',é,fs,us,ê,p,w',N,D,Cc,G,B,rfl,fa,fo,fm,nb,lw,w4,ya,hg,lg,gb,q⟩:=h;obtain⟨dx,ff,ch,co,ro,un,hx,hf,AQ,Su,Gq,uI⟩:=fa.ex;have nd:=rX.nd;have kl:=fo.crn.fr.Fy fm.hp;have rb:=zX fo.crn lw;have N1:=nb.N1;have N2:=nb.N2;refine⟨_,(ky (kM (kW (yJ T) hr (ki (kW (wL T) hr (lJ (nH (pv 0) Z))) (ki (kW (wL T) hr (lJ (nH (pv 0) Z))) (ki (nH (pv 0) Z) (ki (kW (va T) hr (kZ (pv 1) (nH (pv 0) Z))) kS))))))),?_⟩;refine⟨_,Z,x,CF,dx,_,_,Z,hx,T.cl_Frame,T.na_rows,EQ _ _ _ _ _ _ _ _,ro,zas é fs,fs.length,Z,Gq,zby.1,zby.2,J,fun r1 H1 mQ _ h1=>?_⟩;refine⟨_,Z,x,CF,dx,_,_,Z,mQ _ _ hx,T.cl_Frame,T.na_undoing,xg _ _ _ _ _ _ _ _,un,us,fs.length,Z,uI.same mQ,fo.ul,fun u hu=>(fo.uw u hu).1,J,fun u1 H2 mX _ h2=>?_⟩;have ow:=mQ.trans mX;refine⟨_,Z,x,CF,dx,_,_,Z,ow _ _ hx,T.cl_Frame,T.na_modulus,xR _ _ _ _ _ _ _ _,_,Z,_,Z,x,CF,dx,_,_,Z,ow _ _ hx,T.cl_Frame,T.na_columns,xf _ _ _ _ _ _ _ _,s',co,_,zaq fs,Z,kR.of (ow _ _ hg),ow _ _ Su,fun c hc=>by rw[aa,lg];exact zcq fo.crn c hc,by unfold zaq;rw[List.length_map];lia,fun g1 H3 mJ _ h3=>?_⟩;rw[GT _ _ fun c hc=>by rw[lg];exact zcq fo.crn c hc] at h3;have lc:(zaq fs).length=fs.length:=by unfold zaq;rw[List.length_map]
 have gat:∀i:Nat,i<fs.length->zaf ((zaq fs).map fun c=>zai ê c) i=zai ê (zar fs i):=fun i hi=>by
  unfold zaf;rw[ae];exact zbk (by rw[af,Rx.Ak hi];rfl)
 have gB:∀i:Nat,i<fs.length->(zaf ((zaq fs).map fun c=>zai ê c) i).natAbs<=G:=fun i hi=>by
  rw[gat i hi];exact gb _ (fo.crn.cor.colw i hi)
 have fl:=Rx.Ar (k:=fs.length) (è:=zas é fs) zby.1;have fu:=Rx.Ar (k:=fs.length) (è:=us) fo.ul;refine⟨r1,u1,g1,zcj fs.length (zas é fs),zcj fs.length us,_,fs.length,16,N,D,B,p,Z,h1.same (mX.trans mJ),h2.same mJ,h3,fl.1,G6 zby.1 rb,fu.1,G6 fo.ul fo.uw,by rw[aa,lc],fun y hy=>?_,J,J,N2,TM ya,fm.sc1 gB nb.DB nb.big,fm.ri1,nb.B1,nb.lim,fun t tt H4 á b nJ ht qk lt b1 bD bN bt sol=>?_⟩
 .obtain⟨c,hc,rfl⟩:=List.mem_map.mp hy;have:=gb c (zcq fo.crn c hc);have:=nb.GN;lia
 .refine q t tt H4 á b ((ow.trans mJ).trans nJ) ht qk lt b1 bD bN bt fun i hi=>?_;rw[<-gat i hi,<-sol i hi];refine zad fun j hj=>?_;rw[Rx.uW zby.1 hi hj,Rx.uF hj hi,ae]
inductive Qo (C:Addr)(vs:List V)(H:Hp)(Q:VK)(_:XK):Prop
 | mk (x s:Addr)(é:List (List Int))(fs:List zau)(us:List (List Int))(am:List Int)(p:Int)(w N D Cc G B:Nat)(_:vs=[.ref x,.ref s])(_:xL C H x p w é fs us)(_:MB p w N é fs us)(_:zcy p w é fs us D Cc)(_:Nb p fs.length D Cc G B N)(_:∀y∈é,y.length=w/\Bd N y)(_:w<=420)(_:1000<=p)(_:H s=some (.lst (am.map zaa)))(_:am.length=fs.length)(_:∀c,c<fs.length->(zai am c).natAbs<=G)(_:∀t tt H' á b,kD H H'->H' t=some (.tup [.ref tt,.int b])->H' tt=some (.lst ((zbi w (zaq fs) á).map zaa))->H tt=none->á.length=fs.length->1<=b->b∣(D:Int)->b<2^N->Bd N á->(∀i:Nat,i<fs.length->(zab fs.length fun t=>zan é (zay fs i) (zar fs t.toNat)*zaf á t)=b*zai am i)->Q (.ref t) H')
theorem qT (T:Txt K mg CF cN):Mf P w K mg base 7 CF "weights" ["self","amounts"] (Qo CF):=by
 refine T.m_Frame_weights.ok qV (fun vs H Q E h=>?_) (fun f cdv A outer s H vs Q E hr h=>?_)
 .obtain⟨_,_,_,_,_,_,_,_,_,_,_,_,_,rfl,_⟩:=h;rfl
 obtain⟨x,s',é,fs,us,am,p,w',N,D,Cc,G,B,rfl,fa,fo,fm,nb,lw,w4,ya,hg,lg,gb,q⟩:=h;obtain⟨dx,ff,ch,co,ro,un,hx,hf,AQ,Su,Gq,uI⟩:=fa.ex;have nd:=qV.nd;have kl:=fo.crn.fr.Fy fm.hp;have rb:=zX fo.crn lw;have N1:=nb.N1;have N2:=nb.N2;have GN:=nb.GN;have lc:(zaq fs).length=fs.length:=by unfold zaq;rw[List.length_map]
 have gB:∀i:Nat,i<fs.length->(zaf am i).natAbs<=G:=fun i hi=>by
  unfold zaf;rw[ae];exact gb i hi
 refine⟨_,(kh (kU 2 nd (kW (yJ T) hr (ki (nH (pv 0) Z) (ki (nH (pv 0) Z) (ki (nH (pv 0) Z) (ki (pv 1) kS)))))) (ky (kM (mE (kZ (kW (yS T) hr (ki (nH (pv 0) Z) (ki (nH (pv 0) Z) (ki (k7 kT (pv 2) ks) kS)))) (k7 kT (pv 2) ks)))))),?_⟩;refine⟨_,Z,x,CF,dx,_,_,Z,hx,T.cl_Frame,T.na_rows,EQ _ _ _ _ _ _ _ _,_,Z,x,CF,dx,_,_,Z,hx,T.cl_Frame,T.na_undoing,xg _ _ _ _ _ _ _ _,_,Z,x,CF,dx,_,_,Z,hx,T.cl_Frame,T.na_modulus,xR _ _ _ _ _ _ _ _,_,Z,ro,un,s',zas é fs,us,am,fs.length,16,N,D,B,p,Z,Gq,uI,hg,zby.1,rb,fo.ul,fo.uw,lg,fun y hy=>?_,J,J,N2,TM ya,fm.sc2 gB nb.DB nb.big,fm.ri2,nb.B1,nb.lim,fun t tt H1 á b mQ ht qk lt b1 bD bN bt sol=>?_⟩
 .obtain⟨c,hc,rfl⟩:=zck hy;have:=gb c J;lia
 have i0:m9 [zac tt,zaa b] 0=some (.ref tt):=Z;have i1:m9 [zac tt,zaa b] 1=some (.int b):=Z;refine⟨_,Z,x,CF,dx,_,_,Z,mQ _ _ hx,T.cl_Frame,T.na_size,Ka _ _ _ _ _ _ _ _,_,Z,x,CF,dx,_,_,Z,mQ _ _ hx,T.cl_Frame,T.na_columns,xf _ _ _ _ _ _ _ _,_,Z,t,_,_,_,Z,Z,lX.of ht,i0,w',co,tt,zaq fs,á,Z,mQ _ _ Su,qk,by rw[lc,lt],zcq fo.crn,J,fun sp H2 mX nsp h2=>?_⟩;refine⟨_,Z,t,_,_,_,Z,Z,lX.of (mX _ _ ht),i1,kq,fun rt hrt=>?_⟩;refine q rt sp _ á b (ku (mQ.trans mX) hrt) ko (ku (kD.refl _) hrt _ _ h2) (mQ.free nsp) lt b1 bD bN bt fun i hi=>?_;have:=sol i hi;unfold zaf at this;rw[ae] at this;rw[<-this];refine zad fun j hj=>?_;rw[Rx.uF hi hj,ae];rfl
inductive Qn (vs:List V)(H:Hp)(Q:VK)(_:XK):Prop
 | mk (a b:Int)(_:vs=[.int a,.int b])(_:Q (.int (zbq a b)) H)
theorem Dy (T:Txt K mg CF cN):Df P w K mg base 1 "divisor" ["one","other"] Qn:=by
 refine mf T.d_divisor DM fun f cdv A outer s H vs Q E hr nd h=>?_;obtain⟨a,b,rfl,q⟩:=h;refine⟨_,(kh (kU 2 nd (lH qa kf T.b_abs zcx (lJ (pv 0)))) (kh (kU 3 nd (lH qa kf T.b_abs zcx (lJ (pv 1)))) (kh (nW aJ (mC oN (pv 3) ks) (kh (kU 4 nd (kK lO (pv 2) (pv 3))) (kh (kU 2 nd (pv 3)) (ky (kU 3 nd (pv 4)))))) (ky (kM (pv 2)))))),?_⟩;refine⟨_,Z,_,Z,?_⟩;refine⟨_,Z,_,Z,?_⟩;have st:=Eh.start a b;refine⟨fun m σ H'=>H'=H/\∃(g s:Int)(lv:Option V),σ=[some (.int a),some (.int b),some (.int g),some (.int s),lv]/\0<=g/\0<=s/\zbq g s=zbq a b/\m=s.toNat,
  ⟨_,Z,Eh.ab a,Eh.ab b,none,Z,st.1,st.2.1,st.2.2,Z⟩,?_⟩
 rintro m σ H' ⟨rfl,g,s,lv,rfl,g0,s0,e,rfl⟩;refine⟨_,Z,Z,_,Z,?_⟩;refine nw (fun c=>?_) (fun c=>?_)
 .have ne:=Mr c;have t:=Eh.Ry g0 s0 e ne;refine⟨_,fun _ _ h=>h,?_⟩;refine⟨_,Z,_,Z,_,_,Z,Z,(show 0<s by omega),?_⟩;refine⟨_,Z,?_⟩;refine⟨_,Z,?_⟩;exact⟨(g%s).toNat,t.2.2,Z,_,_,_,Z,s0,t.1,t.2.1,Z⟩
 .have z:=FA c;refine⟨_,Z,?_⟩;rw[Eh.out g0 e z];exact q
inductive Kj (vs:List V)(H:Hp)(Q:VK)(_:XK):Prop
 | mk (a b:Int)(N:Nat)(_:vs=[.int a,.int b])(_:1<=a)(_:1<=b)(_:a<2^N)(_:b<2^N)(_:N<=9000)(_:∀j:Int,1<=j->a∣j->b∣j->(∀D:Int,a∣D->b∣D->j∣D)->Q (.int j) H)
theorem Jg (T:Txt K mg CF cN):Df P w K mg base 2 "joint" ["one","other"] Kj:=by
 refine mf T.d_joint GC fun f cdv A outer s H vs Q E hr nd h=>?_;obtain⟨a,b,N,rfl,a1,b1,aN,bN,N2,q⟩:=h;have eN:=oR N;obtain⟨G1,Ga,j1,d1,d2,al⟩:=Rx.Oc a1 b1 (G:=zbq a b) Z;have q0:=cK (show 0<=a by lia) (show 0<=zbq a b by lia);have q1:=b8 (zbq a b) (show 0<=a by lia);refine⟨_,(ky (kM (kK lL (kK lE (pv 0) (kW (Dy T) hr (kZ (pv 0) (pv 1)))) (pv 1)))),?_⟩;refine⟨_,Z,_,Z,_,Z,_,_,Z,_,_,Z,Z,t7 J (show (zbq a b).natAbs<2^N by lia) N2,_,Z,_,_,Z,Z,sX (N:=N) (M:=N) J J J J,?_⟩;exact q _ j1 d1 d2 al
inductive Qg (vs:List V)(H:Hp)(Q:VK)(_:XK):Prop
 | mk (r s:Addr)(one other:List Int)(a b m:Int)(N:Nat)(_:vs=[.ref r,.int a,.ref s,.int b,.int m])(_:H r=some (.lst (one.map zaa)))(_:H s=some (.lst (other.map zaa)))(_:one.length=other.length)(_:one.length<=20000)(_:0<m)(_:a.natAbs<2^N)(_:b.natAbs<2^N)(_:Bd N one)(_:Bd N other)(_:N<=1000000)(_:∀t H',kD H H'->H t=none->H' t=some (.lst ((zcf one a other b m).map zaa))->Q (.ref t) H')
theorem A1 (T:Txt K mg CF cN):Df P w K mg base 1 "mixed" ["one","many","other","more","modulus"] Qg:=by
 refine mf T.d_mixed Iv fun f cdv A outer s H vs Q E hr nd h=>?_;obtain⟨r,s',one,other,a,b,m,N,rfl,h1,h2,l,lz,m0,aN,bN,b1,b2,N1,q⟩:=h;refine⟨_,(ky (kM (om [("modulus",4),("many",1),("more",3)] ["number","beyond"] (pH kf T.b_zip (kZ (pv 0) (pv 2))) (fun C s H fp=>⟨(uZ 3 4),lC,(kK lO (kK lU (kK lL (pv 3) (pv 1)) (kK lL (pv 4) (pv 2))) (pv 0))⟩)))),?_⟩;refine⟨_,Z,_,Z,r,s',Z,⟨_,kR.of h1⟩,⟨_,kR.of h2⟩,?_⟩;refine qU (K:=K) (xs:=one.map zaa) (ys:=other.map zaa) (zcf one a other b m) (by rw[aa,aa,l]) (by rw[Lt.uf Z l.symm,aa]) (by rw[aa];exact lz) (kR.of h1) (kR.of h2) ?_ fun D H2 sm n hD=>q D H2 sm n hD;intro i x y H2 p hx hy sm hp R k;obtain⟨u,rfl,hu⟩:=int_at hx;obtain⟨v,rfl,hv⟩:=int_at hy;refine⟨p,_,Z,lX.of ko,Z,_,_,Z,_,_,Z,Z,?_⟩;refine⟨_,Z,_,Z,_,_,Z,Z,sX (b1 u (ah hu)) aN N1 N1,_,Z,_,Z,_,_,Z,Z,sX (b2 v (ah hv)) bN N1 N1,_,_,Z,Z,_,Z,_,_,Z,Z,m0,?_⟩;exact k _ _ (ku (kD.refl _) hp) (by unfold zcf;rw[List.getElem?_zipWith,hu,hv])
theorem Ec {H:Hp}{ziT a:Addr}(hO:H ziT=some (.lst (as.map zac)))(pa:Paired (fun a (x:List Int)=>H a=some (.lst (x.map zaa))) as è)(ha:H a=some (.lst (l.map zaa)))(nl:l≠[]):mL (upd H ziT (.lst (as.map zac++[.ref a]))) ziT (è++[l]):=by
 have ne1:∀(b:Addr)(x:List Int),H b=some (.lst (x.map zaa))->(as≠[]\/x≠[])->b≠ziT:=fun b x hb o=>oB hb hO fun z=>by
  injection z with z;cases as with
  | nil=>cases x with
   | nil=>rcases o with o | o<;>exact o rfl
   | cons y ys=>cases z
  | cons a0 T3=>cases x with
   | nil=>cases z
   | cons y ys=>injection z with z1;cases z1
 have go:∀{uO:List Addr}{xY:List (List Int)}{o:HO},(uO≠[]->as≠[])->Paired (fun a (x:List Int)=>H a=some (.lst (x.map zaa))) uO xY->Paired (fun a (x:List Int)=>upd H ziT o a=some (.lst (x.map zaa))) uO xY:=fun {uO xY o} im p=>by
  induction p with
  | nil=>exact .nil
  | cons h _ ih =>
   have nn:=im ke;exact .cons ((kO (ne1 _ _ h (.inl nn))).trans h) (ih fun _=>nn)
 exact⟨as++[a],by rw[ko,aS];rfl,L2.Paired.Cw (go id pa) (.cons ((kO (ne1 _ _ ha (.inr nl))).trans ha) .nil)⟩
theorem BC {N:Nat}(mN:m<2^N)(h:Rx.Up m l):Bd N l:=fun x hx=>by
 have:=h x hx;have e:=oR N;lia
inductive P4 (vs:List V)(H:Hp)(Q:VK)(_:XK):Prop
 | mk (r s:Addr)(ls:List (List Int))(row:List Int)(m:Int)(K N:Nat)(_:vs=[.ref r,.ref s,.int m])(_:mL H r ls)(_:H s=some (.lst (row.map zaa)))(_:Lt.CA m K 0 ls)(_:row.length=K)(_:K<=20000)(_:ls.length<=K)(_:∀l∈ls,Rx.Up m l)(_:1<=m)(_:m<2^N)(_:1<=N)(_:N<=9000)(_:∀t H' ls',kD H H'->H t=none->mL H' t ls'->Lt.Ent m 0 ls (row.map fun x=>x%m) ls'->Q (.ref t) H')
theorem Dk (T:Txt K mg CF cN):Df P w K mg base 4 "entered" ["leads","row","modulus"] P4:=by
 refine mf T.d_entered Cu fun f cdv A outer s H vs Q E hr nd h=>?_;obtain⟨r,s',ls,row,m,K',N,rfl,⟨as,h1,pa⟩,h2,Dm,lr,Kz,lK,up,m1,mN,N1,N2,q⟩:=h;have la:=kQ pa;have eN:=oR N;refine⟨_,(kh (kU 3 nd (mF kS)) (kh (vV 4 [("modulus",2)] ["number"] nd (lG (pv 1)) (fun C s H fp=>⟨(oM 1),lC,(kK lO (pv 1) (pv 0))⟩)) (kh (mD aJ Z (pR kf T.b_enumerate (lJ (pv 0))) (nI Z (kX (mT 5 nd) (kX (mT 6 nd) mS))) (ky (mh (mC nR (k7 lP (pv 4) (pv 5)) ks) (ky (oy (vy cV cQ cR oF (pv 3) (lJ (pv 6))))) (kh (kU 7 nd (kW (vg T) hr (ki (k7 lP (pv 6) (pv 5)) (ki (k7 lP (pv 4) (pv 5)) (ki ks kS))))) (kh (kU 8 nd (kK lE (kK nV (k7 kT (pv 7) ks) (kK lL (k7 kT (pv 7) ks) (k7 lP (pv 4) (pv 5)))) (k7 lP (pv 6) (pv 5)))) (kh (oy (vy cV cQ cR oF (pv 3) (lJ (kW (A1 T) hr (ki (pv 6) (ki (pv 8) (ki (pv 4) (ki (k7 kT (pv 7) ks) (ki (pv 2) kS))))))))) (ky (kU 4 nd (kW (A1 T) hr (ki (pv 4) (ki (kK lE (k7 lP (pv 6) (pv 5)) (k7 kT (pv 7) ks)) (ki (pv 6) (ki (sG p7 (kK lE (k7 lP (pv 4) (pv 5)) (k7 kT (pv 7) ks))) (ki (pv 2) kS)))))))))))))) (ky (kM (pv 3)))))),?_⟩;refine⟨n5 O,fun ziT hO=>?_⟩;have LP:kD H (upd H ziT (.lst [])):=ku (kD.refl _) hO;refine⟨_,Z,s',Z,⟨_,kR.of (LP _ _ h2)⟩,?_⟩;refine mP (K:=K) (xs:=row.map zaa) (row.map fun x=>x%m) ziY ziU (kR.of (LP _ _ h2)) ?_ ?_
 .intro i x H2 hx sm R k;obtain⟨u,rfl,hu⟩:=int_at hx;exact⟨_,Z,_,Z,_,_,Z,Z,(show 0<m by lia),k _ _ (kD.refl _) (by rw[af,hu];rfl)⟩
 intro t0 H0 rL _ LG;have Sv:H0 ziT=some (.lst (([]:List Addr).map zac)):=rL _ _ ko;have LM:=LP.trans rL;have lf0:Lt.Lf m K' 0 (row.map fun x=>x%m):=⟨by rw[aa,lr],fun i hi=>absurd hi (bx _),fun i=>(Rx.In.mod (show 0<m by lia) row fun x=>x).g J i⟩;refine⟨_,Z,r,Z,⟨_,kR.of (LM _ _ h1)⟩,p5 (K:=K) (xs:=as.map zac) (fun i σ H2=>kD H H2/\∃(tl:Addr)(left:List Int)(bs:List Addr)(outs:List (List Int))(o1 o2 o3 o4:Option V),σ=[some (.ref r),some (.ref s'),some (.int m),some (.ref ziT),some (.ref tl),o1,o2,o3,o4]/\H2 tl=some (.lst (left.map zaa))/\H2 ziT=some (.lst (bs.map zac))/\Paired (fun a (x:List Int)=>H2 a=some (.lst (x.map zaa))) bs outs/\outs.length=i/\Lt.CA m K' i (ls.drop i)/\Lt.Lf m K' i left/\∀ls',Lt.Ent m i (ls.drop i) left ls'->Lt.Ent m 0 ls (row.map fun x=>x%m) (outs++ls'))
  ⟨LM,t0,_,[],[],none,none,none,none,Z,LG,Sv,.nil,Z,Dm,lf0,fun ls' e=>e⟩ (fun i σ H2 _ z=>z.1.seq (kR.of h1)) ?_ ?_⟩
 .rintro i x σ H2 pp hx ⟨sm,tl,left,bs,outs,o1,o2,o3,o4,rfl,hl,PL,pb,lo,tr,lf,go⟩ Ck;obtain⟨a,l,rfl,ha,qm,hh⟩:=nF pa hx;have il:i<ls.length:=(aF.mp qm).1;have ed:ls.drop i=l::ls.drop (i+1):=by
   rw[iQ il];congr 1;rw[az il] at qm;exact bL qm
  rw[ed] at tr go;obtain⟨⟨ll,lz,l1,ld⟩,tr'⟩:=tr;have PM:=up l (ah qm);have lm:=PM _ (zbd (l:=l) (i:=i) J);have AM:=lf.AM i;have rM:=ku (o:=.tup [.int (i:Nat),.ref a]) (kD.refl H2) Ck;have E8:=rM _ _ hl;have LQ:=rM _ _ (sm _ _ hh);have Sw:=rM _ _ PL;have pb1:=lZ rM pb;have Y3:l≠[]:=fun z=>by rw[z] at ll;simp at ll;lia
  have fl:left.length=K':=lf.len;have Uj:Bd N left:=fun y hy=>by
   obtain⟨j,hj,e⟩:=zck hy;have:=lf.AM j;lia
  have cg:m9 (left.map zaa) (i:Int)=some (.int (zai left i)):=m8 ziW;have cl:m9 (l.map zaa) (i:Int)=some (.int (zai l i)):=m8 ziW;have lob:bs.length=i:=by rw[kQ pb,lo]
  refine⟨pp,_,Z,lX.of ko,Z,_,_,Z,_,_,Z,Z,?_⟩;refine⟨_,Z,_,Z,tl,_,_,_,Z,Z,kR.of E8,cg,Z,_,Z,nw (fun c=>?_) (fun c=>?_)⟩
  .have z:=vm c;refine⟨_,Z,.inl ⟨Z,_,kR.of Sw⟩,_,Z,ziT,_,_,Z,Z,Sw,by rw[aa,lob];exact nQ J,?_⟩;obtain⟨Y4,e1,e2⟩:=Ec Sw pb1 LQ Y3;refine⟨lI (sm.trans rM) hO,tl,left,Y4,outs++[l],_,_,_,_,Z,(kO (oB E8 Sw fun zz=>?_)).trans E8,e1,e2,by rw[aI,lo];rfl,tr',lf.next z,fun ls' e=>?_⟩
   .injection zz with zz;cases left with
    | nil=>simp at fl;lia
    | cons y ys=>cases bs with
     | nil=>cases zz
     | cons b0 Um=>injection zz with z1;cases z1
   .rw[gN];exact go _ (.skip z e)
  .have nz:=vC c;refine⟨_,Z,_,Z,a,_,_,_,Z,Z,kR.of LQ,cl,_,Z,_,Z,tl,_,_,_,Z,Z,kR.of E8,cg,zai l i,zai left i,0,N,Z,l1,AM.1,dj 0,N1,N2,J,J,fun tt H3 r0 c0 r1 c1 mJ ht S p0 bz _ cb=>?_⟩;have z1:r1=0:=Bi J;have dv:=S.dvd z1;rw[z1] at S;have bz':=Rx.Wd S l1;have i0:m9 [zaa r0,zaa c0,zaa r1,zaa c1] 0=some (.int r0):=Z;have i1:m9 [zaa r0,zaa c0,zaa r1,zaa c1] 1=some (.int c0):=Z;have r0l:=aW (show 0<zai l i by lia) dv.1;have OR:=mJ _ _ E8;have Uo:=mJ _ _ LQ;have hO3:=mJ _ _ Sw;have Y5:=lZ mJ pb1;obtain⟨α,Y6⟩:∃α:Int,α=(r0-c0*zai left i)/zai l i:=⟨_,Z⟩;have αb:α.natAbs<2^(2*N+2):=by
    have e:α*zai l i=r0-c0*zai left i:=by rw[Y6];lia
    have n1:(α.natAbs:Int)<=(α*zai l i).natAbs:=by
     rw[aR,aP];have:=ay (show (1:Int)<=(zai l i).natAbs by lia) (show (0:Int)<=α.natAbs by lia);lia
    rw[e] at n1;have n2:((c0*zai left i).natAbs:Int)<=2^N*2^N:=by
     rw[aR,aP];exact cL J J J J
    have e4:((2^(2*N+2):Nat):Int)=2^N*2^N*4:=by
     rw[dW,eT,show 2*N=N+N by lia,eT];rfl
    have:(1:Int)<=2^N:=f7 O;have:(2:Int)^N*1<=2^N*2^N:=ay this J;lia
   refine⟨_,Z,tt,_,_,_,Z,Z,lX.of ht,i0,_,Z,tt,_,_,_,Z,Z,lX.of ht,i1,_,Z,_,Z,tl,_,_,_,Z,Z,kR.of OR,cg,_,_,Z,Z,sX (N:=N) (M:=N) J J J J,_,_,Z,Z,_,Z,_,Z,a,_,_,_,Z,Z,kR.of Uo,cl,_,_,Z,Z,t7 J (show (zai l i).natAbs<2^N by lia) N2,?_⟩;dsimp only;rw[<-Y6];have Nw:2^N<=2^(2*N+2):=bU O J;refine⟨_,Z,.inl ⟨Z,_,kR.of hO3⟩,_,Z,_,Z,_,Z,_,Z,tt,_,_,_,Z,Z,lX.of ht,i1,_,Z,a,tl,l,left,α,c0,m,2*N+2,Z,Uo,OR,by rw[ll,fl],J,J,αb,J,rC (BC mN PM) J,rC Uj J,J,fun tm H4 nJ _ Uk=>?_⟩;have OS:=nJ _ _ hO3;have YS:=lZ nJ Y5;refine⟨ziT,_,_,Z,Z,OS,by rw[aa,lob];exact nQ J,?_⟩;have Y7:zcf l α left c0 m≠[]:=fun z=>by have:=Lt.uf (a:=α) (b:=c0) (m:=m) ll fl;rw[z] at this;simp at this;lia
   obtain⟨Y4,e1,e2⟩:=Ec OS YS Uk Y7;have nO:∀(c:Addr)(y:List Int),y.length=K'->H4 c=some (.lst (y.map zaa))->c≠ziT:=fun c y ly hc=>oB hc OS fun zz=>by
    injection zz with zz;cases y with
    | nil=>simp at ly;lia
    | cons y ys=>cases bs with
     | nil=>cases zz
     | cons b0 Um=>injection zz with z1;cases z1
   obtain⟨oo,hoo⟩:∃oo:HO,oo=.lst (bs.map zac++[.ref tm]):=⟨_,Z⟩;have Uq:=(kO (o:=oo) (nO tl left fl (nJ _ _ OR))).trans (nJ _ _ OR);have Ur:=(kO (o:=oo) (nO a l ll (nJ _ _ Uo))).trans (nJ _ _ Uo);have Us:=(kO (o:=oo) (oB (nJ _ _ ht) OS (by intro z;cases z))).trans (nJ _ _ ht);have Gr:kD H (upd H4 ziT oo):=lI (((sm.trans rM).trans mJ).trans nJ) hO;rw[hoo] at Uq Ur Us Gr;generalize upd H4 ziT (.lst (bs.map zac++[.ref tm]))=H5 at e1 e2 Uq Ur Us Gr ⊢;have q1:=cK (show 0<=zai l i by lia) (show 0<=r0 by lia);have q2:=b8 r0 (show 0<=zai l i by lia);have q3:=cK AM.1 (show 0<=r0 by lia);have q4:=b8 r0 AM.1;refine⟨_,Z,_,Z,_,Z,a,_,_,_,Z,Z,kR.of Ur,cl,_,Z,tt,_,_,_,Z,Z,lX.of Us,i0,_,_,Z,Z,t7 J (show r0.natAbs<2^N by lia) N2,_,Z,_,Z,_,Z,tl,_,_,_,Z,Z,kR.of Uq,cg,_,Z,tt,_,_,_,Z,Z,lX.of Us,i0,_,_,Z,Z,t7 J (show r0.natAbs<2^N by lia) N2,_,Z,_,Z,tl,a,left,l,_,_,m,N,Z,Uq,Ur,by rw[ll,fl],J,J,J,J,Uj,BC mN PM,J,fun tn H6 rh _ hn6=>?_⟩;refine⟨Gr.trans rh,tn,_,Y4,outs++[zcf l α left c0 m],_,_,_,_,Z,hn6,rh _ _ e1,lZ rh e2,by rw[aI,lo];rfl,tr',lf.mixed m1 ll lz p0 dv.1 dv.2,fun ls' e=>?_⟩;rw[gN];exact go _ (.mix α c0 r0 nz p0 dv.1 dv.2 (by rw[Y6];exact bz') e)
 .rintro σ H2 ⟨sm,tl,left,bs,outs,o1,o2,o3,o4,rfl,hl,PL,pb,lo,tr,lf,go⟩;rw[aa,la,jQ] at go;refine⟨_,Z,q ziT H2 outs sm hO ⟨bs,PL,pb⟩ ?_⟩;have:=go [] .nil;rwa [fU] at this
inductive Qr (K:zdg)(vs:List V)(H:Hp)(Q:VK)(_:XK):Prop
 | mk (r:Addr)(è:List (List Int))(k rr N:Nat)(m:Int)(_:vs=[.ref r,.int k,.int m])(_:mL H r è)(_:è.length=rr)(_:∀row∈è,row.length=k)(_:k+rr<=420)(_:1<=m)(_:m<2^N)(_:1<=N)(_:N<=9000)(_:∀t H' ls,kD H H'->mL H' t ls->Rx.KM m k rr è rr ls->Q (.ref t) H')
theorem Ci (T:Txt K mg CF cN):Df P w K mg base 5 "leads_of" ["rows","size","modulus"] (Qr K):=by
 refine mf T.d_leads_of BP fun f cdv A outer s H vs Q E hr nd h=>?_;obtain⟨r,è,k,rr,N,m,rfl,⟨as,h1,pa⟩,lr,lw,kr,m1,mN,N1,N2,q⟩:=h;have la:=kQ pa;have eN:=oR N;refine⟨_,(kh (vV 3 [("modulus",2),("size",1),("rows",0)] ["column"] nd (nM kf T.b_range (lJ (pv 1))) (fun C s H fp=>⟨(oM 3),lC,(kW (wx T) hr (ki (kK lU (pv 1) (lH (Fv (K:=K) Z) kf T.b_len L2.Iu (lJ (pv 2)))) (ki (pv 3) (ki (pv 0) kS))))⟩)) (kh (mD aJ Z (pR kf T.b_enumerate (lJ (pv 0))) (nI Z (kX (mT 4 nd) (kX (mT 5 nd) mS))) (ky (kU 3 nd (kW (Dk T) hr (ki (pv 3) (ki (kK ua (pv 5) (kW (wx T) hr (ki (oG T.b_len (pv 0)) (ki (pv 4) (ki ks kS))))) (ki (pv 2) kS))))))) (ky (kM (pv 3))))),?_⟩;refine⟨_,Z,k,Z,J,J,?_⟩;refine Ba (n:=k) (Rx.Mg m k rr) (by unfold Rx.Mg;rw[List.length_map,List.length_range]) J ?_ ?_
 .intro i H2 hi sm R kk;refine⟨_,Z,_,Z,r,_,Z,.inl (sm.seq (kR.of h1)),_,_,Z,Z,_,Z,_,Z,k+rr,(i:Nat),m,(by rw[aa,la,lr];rfl),J,J,fun t H3 mJ _ h3=>?_⟩;rw[wn (show i<k+rr by lia)] at h3;exact kk H3 t _ mJ (by unfold Rx.Mg;rw[List.getElem?_map,List.getElem?_range hi];rfl) h3
 intro t0 H0 rL _ h0;refine⟨_,Z,r,Z,⟨_,kR.of (rL _ _ h1)⟩,p5 (K:=K) (xs:=as.map zac) (fun i σ H2=>kD H H2/\∃(tl:Addr)(ls:List (List Int))(o1 o2:Option V),σ=[some (.ref r),some (.int k),some (.int m),some (.ref tl),o1,o2]/\mL H2 tl ls/\Rx.KM m k rr è i ls) ⟨rL,t0,_,none,none,Z,h0,.start m1 k rr è⟩ (fun i σ H2 _ z=>z.1.seq (kR.of h1)) ?_ ?_⟩
 .rintro i x σ H2 pp hx ⟨sm,tl,ls,o1,o2,rfl,Sx,L⟩ Ck;obtain⟨a,row,rfl,ha,mI,hh⟩:=nF pa hx;have il:i<rr:=by rw[<-lr];exact(aF.mp mI).1
  have rl:=lw row (ah mI);have rM:=ku (o:=.tup [.int (i:Nat),.ref a]) (kD.refl H2) Ck;refine⟨pp,_,Z,lX.of ko,Z,_,_,Z,_,_,Z,Z,?_⟩;refine⟨_,Z,_,Z,_,Z,r,_,Z,.inl (kR.of (rM _ _ (sm _ _ h1))),_,Z,rr,(i:Nat),1,(by rw[aa,la,lr];rfl),J,J,fun th H3 mJ _ h3=>?_⟩;rw[wn il] at h3;refine⟨a,th,_,_,Z,Z,mJ _ _ (rM _ _ (sm _ _ hh)),h3,?_,fun tc htc=>?_⟩
  .rw[aa,aa,zda,rl];exact n5 J
  have smc:=ku (o:=.lst (row.map zaa++(zbw rr i 1).map zaa)) (kD.refl H3) htc;refine⟨_,Z,tl,tc,ls,row++zbw rr i 1,m,k+rr,N,Z,((Sx.same rM).same mJ).same smc,by rw[ko,aS],L.Dm,by rw[aI,rl,zda],J,by rw[L.len];lia,L.up,m1,mN,N1,N2,fun tn H4 ls' nJ _ h4 ent=>?_⟩;have er:è.getD i []=row:=zbx mI;exact⟨(((sm.trans rM).trans mJ).trans smc).trans nJ,tn,ls',_,_,Z,h4,L.enter m1 lr lw il (by rw[er];exact ent)⟩
 .rintro σ H2 ⟨sm,tl,ls,o1,o2,rfl,Sx,L⟩;rw[aa,la,lr] at L;exact⟨_,Z,q tl H2 ls sm Sx L⟩
theorem EI (ns:List Int){lo hi:Nat}(h:lo<=hi)(h2:hi<=ns.length):ud (ns.map zaa) (some (lo:Int)) (some (hi:Int))=((ns.take hi).drop lo).map zaa:=by
 unfold ud;rw[HT.zP,HT.zP,aa,<-List.map_drop,<-List.map_take];congr 1;rw[iK h2,iK J,List.drop_take]
inductive NX (K:zdg)(vs:List V)(H:Hp)(Q:VK)(_:XK):Prop
 | mk (r:Addr)(è ls:List (List Int))(k rr j c N:Nat)(m:Int)(_:vs=[.ref r,.int c,.int m])(_:mL H r ls)(_:Rx.KM m k rr è j ls)(_:c<k)(_:k+rr<=420)(_:1<=m)(_:m<2^N)(_:1<=N)(_:N<=9000)(_:∀t H' am,kD H H'->H t=none->H' t=some (.lst (am.map zaa))->am.length=k->Rx.Up m am->Lt.Fp m k c ls 0 (zaf am)->Q (.ref t) H')
theorem C9 (T:Txt K mg CF cN):Df P w K mg base 3 "barring" ["leads","column","modulus"] (NX K):=by
 refine mf T.d_barring CP fun f cdv A outer s H vs Q E hr nd h=>?_;obtain⟨r,è,ls,k,rr,j,c,N,m,rfl,⟨as,h1,pa⟩,L,ck,kr,m1,mN,N1,N2,q⟩:=h;have la:=kQ pa;have lk:=L.len;have eN:=oR N;have lead:∀i:Nat,i<k->(ls.getD i []).length=k+rr/\1<=zai (ls.getD i []) i/\zai (ls.getD i []) i∣m/\zai (ls.getD i []) i<=m/\1<=m/zai (ls.getD i []) i/\m/zai (ls.getD i []) i<=m:=fun i hi=>by
  have t:=L.Dm.at (zbz (è:=ls) (i:=i) J);rw[dY] at t;have le:=aW J t.2.2.2;refine⟨t.1,t.2.2.1,t.2.2.2,le,?_,b8 _ J⟩;obtain⟨x,hx⟩:=t.2.2.2;rw[hx,aG _ J];rcases Int.lt_or_le 0 x with z | z
  .exact z
  .have:=ay z (show 0<=zai (ls.getD i []) i by lia);lia
 obtain⟨ac,Ut,RU⟩:=wJ pa (zbz (è:=ls) (i:=c) J);have lc:=lead c ck;have cg:m9 ((ls.getD c []).map zaa) (c:Int)=some (.int (zai (ls.getD c []) c)):=m8 ziW;refine⟨_,(kh (kU 3 nd (kW (wx T) hr (ki (oG T.b_len (pv 0)) (ki (pv 1) (ki (kK lE (pv 2) (k7 lP (k7 lP (pv 0) (pv 1)) (pv 1))) kS))))) (kh (mD aJ Z (FI kf T.b_range (ki (kK nV (pv 1) ks) (ki (sG p7 ks) (ki (sG p7 ks) kS)))) (mT 4 nd) (kh (kU 5 nd (k7 lP (pv 0) (pv 4))) (kh (kU 6 nd (kW (p6 T) hr (kZ (uL wy (pv 5) (sQ (kK lU (pv 4) ks)) (sQ (kK lU (pv 1) ks))) (uL wy (pv 3) (sQ (kK lU (pv 4) ks)) (sQ (kK lU (pv 1) ks)))))) (ky (pY (kK lO (sG p7 (kK lE (pv 6) (k7 lP (pv 5) (pv 4)))) (kK lE (pv 2) (k7 lP (pv 5) (pv 4)))) (pZ (pv 3) (pv 4) set_list)))))) (ky (kM (pv 3))))),?_⟩;refine⟨_,Z,r,_,Z,.inl (kR.of h1),_,Z,_,Z,_,Z,_,Z,r,_,_,_,Z,Z,kR.of h1,Ut,_,Z,ac,_,_,_,Z,Z,kR.of RU,cg,_,_,Z,Z,t7 J (show (zai (ls.getD c []) c).natAbs<2^N by lia) N2,k,(c:Nat),_,(by rw[aa,la,lk];rfl),J,J,fun t0 H0 rL n0 h0=>?_⟩;rw[wn ck] at h0;obtain⟨v0,hv0⟩:∃v0:Int,v0=m/zai (ls.getD c []) c:=⟨_,Z⟩;rw[<-hv0] at h0;have b0:Lt.Fp m k c ls c (zaf (zbw k c v0)):=Rx.Fp.xF (Lt.V9 L.Dm ck (zbz (è:=ls) (i:=c) J)) fun i=>by
  unfold zaf;rw[ae,Rx.p4 ck,hv0]
  by_cases z:i=c
  .rw[aB z,aB J]
  .rw[ak z,ak J]
 have u0:Rx.Up m (zbw k c v0):=fun x hx=>by
  obtain⟨i,hi,rfl⟩:=zck hx;rw[Rx.p4 ck];split<;>lia
 refine⟨_,Z,_,_,Z,Z,_,Z,_,Z,c,Z,J,CQ (n:=c) (fun i σ H2=>kD H H2/\∃(am:List Int)(o1 o2 o3:Option V),σ=[some (.ref r),some (.int c),some (.int m),some (.ref t0),o1,o2,o3]/\H2 t0=some (.lst (am.map zaa))/\am.length=k/\Rx.Up m am/\Lt.Fp m k c ls (c-i) (zaf am)) ⟨rL,_,none,none,none,Z,h0,zda ..,u0,b0⟩ ?_ ?_⟩
 .rintro i σ H2 hi ⟨sm,am,o1,o2,o3,rfl,ha,lam,up,bar⟩;obtain⟨pl,sY⟩:∃pl:Nat,pl=c-1-i:=⟨_,Z⟩;have ep:(c:Int)-1+(i:Int)*(-1)=(pl:Nat):=J;rw[ep];have epc:c-i=pl+1:=J;rw[epc] at bar;have pk':pl<k:=J;obtain⟨ap,hap,Ck⟩:=wJ pa (zbz (è:=ls) (i:=pl) J);have lp:=lead pl pk';have mI:=zbz (è:=ls) (i:=pl) J;have pg:m9 ((ls.getD pl []).map zaa) (pl:Int)=some (.int (zai (ls.getD pl []) pl)):=m8 ziW;have OT:=sm _ _ Ck;refine⟨_,Z,_,Z,r,_,_,_,Z,Z,kR.of (sm _ _ h1),hap,?_⟩;have e1:(pl:Int)+1=((pl+1:Nat):Int):=J;have e2:(c:Int)+1=((c+1:Nat):Int):=J;refine⟨_,Z,_,Z,_,_,Z,Z,_,Z,_,Z,_,_,Z,Z,_,Z,ap,_,Z,kR.of OT,fun s1 Sy=>?_⟩;have mQ:=ku (o:=.lst (ud ((ls.getD pl []).map zaa) (some ((pl:Int)+1)) (some ((c:Int)+1)))) (kD.refl H2) Sy;have Sz:upd H2 s1 (.lst (ud ((ls.getD pl []).map zaa) (some ((pl:Int)+1)) (some ((c:Int)+1)))) s1=some (.lst ((((ls.getD pl []).take (c+1)).drop (pl+1)).map zaa)):=by
   rw[ko,e1,e2,EI _ J J]
  dsimp only;generalize upd H2 s1 (.lst (ud ((ls.getD pl []).map zaa) (some ((pl:Int)+1)) (some ((c:Int)+1))))=H3 at mQ Sz ⊢;refine⟨_,Z,_,Z,_,_,Z,Z,_,Z,_,Z,_,_,Z,Z,_,Z,t0,_,Z,kR.of (mQ _ _ ha),fun s2 hs2=>?_⟩;have mX:=ku (o:=.lst (ud (am.map zaa) (some ((pl:Int)+1)) (some ((c:Int)+1)))) (kD.refl H3) hs2;have SA:upd H3 s2 (.lst (ud (am.map zaa) (some ((pl:Int)+1)) (some ((c:Int)+1)))) s2=some (.lst (((am.take (c+1)).drop (pl+1)).map zaa)):=by
   rw[ko,e1,e2,EI _ J J]
  dsimp only;generalize upd H3 s2 (.lst (ud (am.map zaa) (some ((pl:Int)+1)) (some ((c:Int)+1))))=H4 at mX SA ⊢;have upl:Bd N (ls.getD pl []):=BC mN (L.up _ (zbm J));have upa:Bd N am:=BC mN up;refine⟨s1,s2,((ls.getD pl []).take (c+1)).drop (pl+1),(am.take (c+1)).drop (pl+1),N,N,Z,kR.of (mX _ _ Sz),kR.of SA,by rw[cI,cO,cI,cO];lia,by rw[cI,cO];lia,fun x hx=>upl x (gu (ia hx)),fun x hx=>upa x (gu (ia hx)),J,J,fun H5 ol=>?_⟩;rw[Rx.KA (k:=k) J lam J J (fun i hi=>by have:=bar.lo i hi;unfold zaf at this;rwa [Int.toNat_natCast] at this) (fun i hi=>by have:=bar.hi i J;unfold zaf at this;rwa [Int.toNat_natCast] at this)];have Cm:=(mQ.trans mX).trans ol;have b1:=Lt.WL m1 L.Dm L.how ck J bar mI;obtain⟨Y8,hdt⟩:∃Y8:Int,Y8=zde k (ls.getD pl []) (zaf am):=⟨_,Z⟩;rw[<-hdt] at b1 ⊢;obtain⟨nv,Uu⟩:∃nv:Int,nv=-(Y8/zai (ls.getD pl []) pl)%(m/zai (ls.getD pl []) pl):=⟨_,Z⟩;rw[<-Uu] at b1;have nv0:0<=nv:=by rw[Uu];exact aE _ J
  have nv1:nv<m/zai (ls.getD pl []) pl:=by rw[Uu];exact aA _ J
  refine⟨_,Z,_,Z,_,Z,ap,_,_,_,Z,Z,kR.of (Cm _ _ OT),pg,_,_,Z,Z,t7 J (show (zai (ls.getD pl []) pl).natAbs<2^N by lia) N2,_,Z,_,Z,_,Z,_,Z,ap,_,_,_,Z,Z,kR.of (Cm _ _ OT),pg,_,_,Z,Z,t7 J (show (zai (ls.getD pl []) pl).natAbs<2^N by lia) N2,_,_,Z,Z,(show 0<m/zai (ls.getD pl []) pl by lia),?_⟩;dsimp only;rw[<-Uu];refine⟨_,Z,_,Z,t0,_,_,_,Z,Z,Cm _ _ ha,qH J ziU,?_⟩;rw[ae,set_int];refine⟨lI (sm.trans Cm) n0,am.set pl nv,_,_,_,Z,ko,by rw[cq,lam],fun x hx=>?_,?_⟩
  .rcases List.mem_or_eq_of_mem_set hx with z | z
   .exact up x z
   .rw[z];lia
  .rw[show c-(i+1)=pl by lia];refine Rx.Fp.xF b1.2 fun t=>?_;unfold zaf;rw[ae,Rx.zA J]
   by_cases z:t=pl
   .rw[aB z,aB J]
   .rw[ak z,ak J]
 .rintro σ H2 ⟨sm,am,o1,o2,o3,rfl,ha,lam,up,bar⟩;rw[jg] at bar;exact⟨_,Z,q t0 H2 am sm n0 ha lam up bar⟩
inductive Rl (vs:List V)(H:Hp)(Q:VK)(_:XK):Prop
 | mk (t tt:Addr)(á:List Int)(b m:Int)(N:Nat)(_:vs=[.ref t,.int m])(_:H t=some (.tup [.ref tt,.int b]))(_:H tt=some (.lst (á.map zaa)))(_:á.length<=20000)(_:1<=b)(_:b<2^N)(_:0<=m)(_:m<2^N)(_:Bd N á)(_:N<=9000)(_:∀u H',kD H H'->H' u=some (.lst ((zbr á (m/b)).map zaa))->Q (.ref u) H')
theorem rT (T:Txt K mg CF cN):Df P w K mg base 1 "whole_counts" ["made","modulus"] Rl:=by
 refine mf T.d_whole_counts vS fun f cdv A outer s H vs Q E hr nd h=>?_;obtain⟨t,tt,á,b,m,N,rfl,ht,qk,lz,b1,bN,m0,mN,bt,N2,q⟩:=h;have eN:=oR N;have i0:m9 [zac tt,zaa b] 0=some (.ref tt):=Z;have i1:m9 [zac tt,zaa b] 1=some (.int b):=Z;have q0:=cK m0 (show 0<=b by lia);have q1:=b8 b m0;refine⟨_,(ky (kM (om [("modulus",1),("made",0)] ["top"] (lG (k7 kT (pv 0) ks)) (fun C s H fp=>⟨(oM 2),lC,(kK lL (pv 2) (kK lE (pv 0) (k7 (uk (K:=K) Z) (pv 1) ks)))⟩)))),?_⟩;refine⟨_,Z,t,_,_,_,Z,Z,lX.of ht,i0,tt,Z,⟨_,kR.of qk⟩,?_⟩;refine mP (K:=K) (xs:=á.map zaa) (zbr á (m/b)) (by rw[Rx.Au,aa]) (by rw[aa];exact lz) (kR.of qk) ?_ fun D H2 sm _ hD=>q D H2 sm hD;intro i x H2 hx sm R k;obtain⟨u,rfl,hu⟩:=int_at hx;exact⟨_,Z,_,Z,_,Z,t,_,_,_,Z,Z,lX.of (sm _ _ ht),i1,_,_,Z,Z,t7 J (show b.natAbs<2^N by lia) N2,_,_,Z,Z,sX (M:=N) (bt u (ah hu)) J J J,k _ _ (kD.refl _) (by unfold zbr;rw[List.getElem?_map,hu];rfl)⟩
inductive QH (vs:List V)(H:Hp)(Q:VK)(_:XK):Prop
 | mk (m n:Int)(_:vs=[.int m,.int n])(_:0<=m)(_:m∣n->Q (.bl true) H)(_:¬m∣n->Q (.bl false) H)
theorem CZ (T:Txt K mg CF cN):Df P w K mg base 1 "divides" ["modulus","number"] QH:=by
 refine mf T.d_divides DH fun f cdv A outer s H vs Q E hr nd h=>?_;obtain⟨m,n,rfl,m0,q1,q2⟩:=h;have key:∀c:Bool,(c=true↔m∣n)->Q (.bl c) H:=fun c e=>by
  cases c with
  | true=>exact q1 (e.mp Z)
  | false=>exact q2 fun z=>by have:=e.mpr z;cases this
 refine⟨_,(kh (mh (mC nR (pv 0) ks) (ky (kM (nX nR (pv 1) ks (oO _)))) k9) (ky (kM (nX nR (kK lO (pv 1) (pv 0)) ks (oO _))))),?_⟩;refine⟨_,Z,Z,_,Z,nw (fun c=>?_) (fun c=>?_)⟩
 .have z:=vm c;subst z;refine⟨_,Z,Z,key _ ⟨fun h=>?_,fun h=>?_⟩⟩
  .rw[vm h];exact bq _
  .rw[gC.mp h];exact b5 Z
 .have z:=vC c;refine⟨_,Z,_,Z,_,_,Z,Z,(show 0<m by lia),Z,key _ ⟨fun h=>?_,fun h=>?_⟩⟩
  .exact bR (vm h)
  .have:n%m=0:=bS h;exact b5 (cU zaa this)
inductive Q1 (K:zdg)(vs:List V)(H:Hp)(Q:VK)(_:XK):Prop
 | mk (r s:Addr)(é:List (List Int))(counts:List Int)(n qq N M:Nat)(_:vs=[.ref r,.ref s,.int n])(_:mL H r é)(_:H s=some (.lst (counts.map zaa)))(_:é.length=qq)(_:counts.length=qq)(_:∀x∈é,x.length=n/\Bd N x)(_:Bd M counts)(_:n<=20000)(_:qq<=20000)(_:N<=1000000)(_:M<=1000000)(_:∀t H' out,kD H H'->H' t=some (.lst (out.map zaa))->out.length=n->(∀c:Nat,c<n->zai out c=zab qq fun j=>zai counts j.toNat*zai (é.getD j.toNat []) c)->Q (.ref t) H')
theorem yZ (T:Txt K mg CF cN):Df P w K mg base 1 "summed" ["steps","counts","size"] (Q1 K):=by
 refine mf T.d_summed Fg fun f cdv A outer s H vs Q E hr nd h=>?_;obtain⟨r,s',é,counts,n,qq,N,M,rfl,⟨as,h1,pa⟩,h2,ls,lc,lw,bc,nz,qz,N1,M1,q⟩:=h;have la:=kQ pa;refine⟨_,(kh (kU 3 nd (kK pJ (mF (lJ ks)) (pv 2))) (kh (mD aJ Z (pH kf T.b_zip (kZ (pv 0) (pv 1))) (nI Z (kX (mT 4 nd) (kX (mT 5 nd) mS))) (ky (vV 3 [("many",5)] ["number","more"] nd (pH kf T.b_zip (kZ (pv 3) (pv 4))) (fun C s H fp=>⟨(uZ 1 2),lC,(kK lU (pv 1) (kK lL (pv 0) (pv 2)))⟩)))) (ky (kM (pv 3))))),?_⟩;refine⟨kC,fun lo zD=>⟨_,Z,lo,_,_,Z,Z,ko,J,J,ziV,fun p hp=>?_⟩⟩;rw[rep0];have LJ:kD H (upd (upd H lo (.lst [zaa 0])) p (.lst ((List.replicate n (0:Int)).map zaa))):=ku (ku (kD.refl _) zD) hp;have hP:upd (upd H lo (.lst [zaa 0])) p (.lst ((List.replicate n (0:Int)).map zaa)) p=some (.lst ((List.replicate n (0:Int)).map zaa)):=ko;generalize upd (upd H lo (.lst [zaa 0])) p (.lst ((List.replicate n (0:Int)).map zaa))=H0 at LJ hP ⊢;refine⟨_,Z,_,Z,r,s',Z,⟨_,kR.of (LJ _ _ h1)⟩,⟨_,kR.of (LJ _ _ h2)⟩,wA (K:=K) (xs:=as.map zac) (ys:=counts.map zaa) (by rw[aa,aa,la,ls,lc]) (fun i σ H2=>kD H H2/\∃(tl:Addr)(out:List Int)(o1 o2:Option V),σ=[some (.ref r),some (.ref s'),some (.int n),some (.ref tl),o1,o2]/\H2 tl=some (.lst (out.map zaa))/\out.length=n/\∀c:Nat,c<n->zai out c=zab i fun j=>zai counts j.toNat*zai (é.getD j.toNat []) c)
  ⟨LJ,p,_,none,none,Z,hP,aQ,fun c hc=>Rx.BX hc⟩ (fun i σ H2 _ z=>⟨z.1.seq (kR.of h1),z.1.seq (kR.of h2)⟩) ?_ ?_⟩
 .rintro i x y σ H2 pp hx hy ⟨sm,tl,out,o1,o2,rfl,hl,SB,eq⟩ Ck;obtain⟨a,row,rfl,ha,mI,hh⟩:=nF pa hx;obtain⟨v,rfl,hv⟩:=int_at hy;have rl:=lw row (ah mI);have rM:=ku (o:=.tup [.ref a,.int v]) (kD.refl H2) Ck;refine⟨pp,_,Z,lX.of ko,Z,_,_,Z,_,_,Z,Z,?_⟩;refine⟨_,Z,_,Z,tl,a,Z,⟨_,kR.of (rM _ _ hl)⟩,⟨_,kR.of (rM _ _ (sm _ _ hh))⟩,?_⟩;refine qU (K:=K) (xs:=out.map zaa) (ys:=row.map zaa) (List.zipWith (fun x y=>x+v*y) out row) (by rw[aa,aa,SB,rl.1]) (by rw[dX,aa,SB,rl.1,gf]) ziU (kR.of (rM _ _ hl)) (kR.of (rM _ _ (sm _ _ hh))) ?_ ?_
  .intro i' x' y' H3 p3 DR DQ mJ hp3 R k;obtain⟨u1,rfl,hu1⟩:=int_at DR;obtain⟨u2,rfl,hu2⟩:=int_at DQ;refine⟨p3,_,Z,lX.of ko,Z,_,_,Z,_,_,Z,Z,?_⟩;exact⟨_,Z,_,Z,_,Z,_,_,Z,Z,sX (bc v (ah hv)) (rl.2 u2 (ah hu2)) M1 N1,_,_,Z,Z,k _ _ (ku (kD.refl _) hp3) (by rw[cm,hu1,hu2])⟩
  .intro D H3 mJ _ hD;refine⟨(sm.trans rM).trans mJ,D,_,_,_,Z,hD,by rw[dX,SB,rl.1,gf],fun c hc=>?_⟩;rw[Rx.yW J J,eq c hc];show _=(zab i fun j=>zai counts j.toNat*zai (é.getD j.toNat []) c)+zai counts (i:Int).toNat*zai (é.getD (i:Int).toNat []) c
   rw[ae,zbk hv,zbx mI]
 .rintro σ H2 ⟨sm,tl,out,o1,o2,rfl,hl,SB,eq⟩;rw[aa,la,ls] at eq;exact⟨_,Z,q tl H2 out sm hl SB eq⟩
inductive Rw (K:zdg)(vs:List V)(H:Hp)(Q:VK)(_:XK):Prop
 | mk (r t wt:Addr)(v0:V)(é:List (List Int))(W:List Int)(m:Int)(w N M:Nat)(_:vs=[.ref r,.ref t])(_:mL H r é)(_:H t=some (.tup [v0,.ref wt,.int m]))(_:H wt=some (.lst (W.map zaa)))(_:W.length=w)(_:∀x∈é,x.length=w/\Bd N x)(_:Bd M W)(_:w<=20000)(_:N<=1000000)(_:M<=1000000)(_:0<=m)(_:∀(i:Nat) H',kD H H'->i<é.length->¬m∣zao (é.getD i []) W->Q (.int i) H')(_:∀H',kD H H'->(∀i,i<é.length->m∣zao (é.getD i []) W)->Q .non H')
theorem oQ (T:Txt K mg CF cN):Df P w K mg base 3 "first_unbarred" ["steps","bar"] (Rw K):=by
 refine mf T.d_first_unbarred uo fun f cdv A outer s H vs Q E hr nd h=>?_;obtain⟨r,t,wt,v0,é,W,m,w',N,M,rfl,⟨as,h1,pa⟩,ht,hw,lW,lw,bW,wz,N1,M1,m0,q1,q2⟩:=h;have la:=kQ pa;have i1:m9 [v0,zac wt,zaa m] 1=some (.ref wt):=Z;have i2:m9 [v0,zac wt,zaa m] 2=some (.int m):=Z;refine⟨_,(kh (mD aJ Z (pR kf T.b_enumerate (lJ (pv 0))) (nI Z (kX (mT 2 nd) (kX (mT 3 nd) mS))) (ky (mh (oW (oA (kW (CZ T) hr (kZ (k7 kT (pv 1) ks) (kW (p6 T) hr (kZ (pv 3) (k7 kT (pv 1) ks))))))) (ky (kM (pv 2))) k9))) (ky (kM sA))),?_⟩;refine⟨_,Z,r,Z,⟨_,kR.of h1⟩,p5 (K:=K) (xs:=as.map zac) (fun i σ H2=>kD H H2/\(∃o1 o2:Option V,σ=[some (.ref r),some (.ref t),o1,o2])/\∀c,c<i->m∣zao (é.getD c []) W) ⟨kD.refl _,⟨none,none,Z⟩,fun c hc=>absurd hc (bx _)⟩ (fun i σ H2 _ z=>z.1.seq (kR.of h1)) ?_ ?_⟩
 .rintro i x σ H2 p hx ⟨sm,⟨o1,o2,rfl⟩,z⟩ hp;obtain⟨a,row,rfl,ha,mI,hh⟩:=nF pa hx;have rl:=lw row (ah mI);have il:i<é.length:=(aF.mp mI).1;have er:=zbx mI;have rM:=ku (o:=.tup [.int (i:Nat),.ref a]) (kD.refl H2) hp;have AH:=sm.trans rM;refine⟨p,_,Z,lX.of ko,Z,_,_,Z,_,_,Z,Z,?_⟩;refine⟨_,Z,t,_,_,_,Z,Z,lX.of (AH _ _ ht),i2,_,Z,_,Z,t,_,_,_,Z,Z,lX.of (AH _ _ ht),i1,a,wt,row,W,N,M,Z,kR.of (AH _ _ hh),kR.of (AH _ _ hw),by rw[rl.1,lW],J,rl.2,bW,N1,M1,fun H3 mJ=>?_⟩;refine⟨m,zao row W,Z,m0,fun dv=>?_,fun ndv=>?_⟩
  .refine⟨_,Z,nq O ?_⟩;refine⟨AH.trans mJ,⟨_,_,Z⟩,fun c hc=>?_⟩;rcases Nat.lt_succ_iff_lt_or_eq.mp hc with e | e
   .exact z c e
   .rw[e,er];exact dv
  .refine⟨_,Z,qM O ?_⟩;exact⟨_,Z,q1 i H3 (AH.trans mJ) il (by rw[er];exact ndv)⟩
 .rintro σ H2 ⟨sm,_,z⟩;rw[aa,la] at z;exact q2 H2 sm z
inductive Rc (C:Addr)(vs:List V)(H:Hp)(Q:VK)(_:XK):Prop
 | mk (x s:Addr)(é:List (List Int))(fs:List zau)(us:List (List Int))(am:List Int)(p:Int)(w N D Cc G B:Nat)(_:vs=[.ref x,.ref s])(_:xL C H x p w é fs us)(_:MB p w N é fs us)(_:zcy p w é fs us D Cc)(_:Nb p fs.length D Cc G B N)(_:∀y∈é,y.length=w/\Bd N y)(_:w<=420)(_:1000<=p)(_:H s=some (.lst (am.map zaa)))(_:am.length=fs.length)(_:∀c,c<fs.length->(zai am c).natAbs<=G)(_:∀t tt H' á b,kD H H'->H' t=some (.tup [.str "bar",.ref tt,.int b])->H' tt=some (.lst (((zbi w (zaq fs) á).map fun x=>x%b).map zaa))->á.length=fs.length->1<=b->b<2^N->(∀i:Nat,i<fs.length->(zab fs.length fun t=>zan é (zay fs i) (zar fs t.toNat)*zaf á t)=b*zai am i)->Q (.ref t) H')
theorem Av (T:Txt K mg CF cN):Df P w K mg base 8 "inner_bar" ["frame","amounts"] (Rc CF):=by
 refine mf T.d_inner_bar Ao fun f cdv A outer s H vs Q E hr nd h=>?_;obtain⟨x,s',é,fs,us,am,p,w',N,D,Cc,G,B,rfl,fa,fo,fm,nb,lw,w4,ya,hg,lg,gb,q⟩:=h;obtain⟨dx,ff,ch,co,ro,un,hx,_⟩:=fa.ex;refine⟨_,(kh (kU 2 nd (wC (pv 0) T.cl_Frame (qT T) (hr.mono O) (lJ (pv 1)))) (ky (kM (mE (ki mR (ki (om [("told",2)] ["number"] (lG (k7 kT (pv 2) ks)) (fun C s H fp=>⟨(oM 1),lC,(kK lO (pv 1) (k7 (uk (K:=K) Z) (pv 0) ks))⟩)) (ki (k7 kT (pv 2) ks) kS))))))),?_⟩;refine⟨_,Z,x,dx,_,Z,hx,wM _ _ _ _ _ _ _ _,_,Z,x,s',é,fs,us,am,p,w',N,D,Cc,G,B,Z,fa,fo,fm,nb,lw,w4,ya,hg,lg,gb,fun t tt H1 á b mQ ht qk _ lt b1 _ bN _ sol=>?_⟩;have i0:m9 [zac tt,zaa b] 0=some (.ref tt):=Z;have i1:m9 [zac tt,zaa b] 1=some (.int b):=Z;refine⟨_,Z,t,_,_,_,Z,Z,lX.of ht,i0,tt,Z,⟨_,kR.of qk⟩,?_⟩;refine mP (K:=K) (xs:=(zbi w' (zaq fs) á).map zaa) ((zbi w' (zaq fs) á).map fun x=>x%b) ziY zja (kR.of qk) ?_ ?_
 .intro i y H2 hy sm R k;obtain⟨u,rfl,hu⟩:=int_at hy;exact⟨_,Z,_,Z,t,_,_,_,Z,Z,lX.of (sm _ _ ht),i1,_,_,Z,Z,(show 0<b by lia),k _ _ (kD.refl _) (by rw[af,hu];rfl)⟩
 .intro D2 H2 mX _ YU;refine⟨_,Z,t,_,_,_,Z,Z,lX.of (mX _ _ ht),i1,kY,fun u hu=>?_⟩;exact q u D2 _ á b (ku (mQ.trans mX) hu) ko (ku (kD.refl _) hu _ _ YU) lt b1 bN sol
abbrev Ot:=Nat×List Int×Int
def IS (H:Hp)(a:Addr)(x:Ot):Prop:=∃t tt,H a=some (.tup [.int x.1,.ref t])/\H t=some (.tup [.ref tt,.int x.2.2])/\H tt=some (.lst (x.2.1.map zaa))
def Fi (H:Hp)(r:Addr)(os:List Ot):Prop:=∃as:List Addr,H r=some (.lst (as.map zac))/\Paired (IS H) as os
theorem A4 {H H':Hp}(sm:kD H H'){os:List Ot}(h:Paired (IS H) as os):Paired (IS H') as os:=oz h fun _ _ ⟨t,tt,a,b,c⟩=>⟨t,tt,sm _ _ a,sm _ _ b,sm _ _ c⟩
theorem Fi.same {H H':Hp}(sm:kD H H'){os:List Ot}(h:Fi H r os):Fi H' r os :=
 let ⟨as,h1,h2⟩:=h;⟨as,sm _ _ h1,A4 sm h2⟩
structure LX (w k N:Nat)(é:List (List Int))(fs:List zau)(os:List Ot)(ê W:List Int)(s:Int):Prop where
 len:W.length=w
 s1:1<=s
 sN:s<2^N
 AM:Rx.In s W
 ch:∀i,i<fs.length->s∣zao (é.getD (zay fs i) []) W
 ot:∀o∈os,s∣zao (é.getD o.1 []) W
 go:¬s∣zao ê W
 k0:0<fs.length
inductive V1 (C:Addr)(vs:List V)(H:Hp)(Q:VK)(_:XK):Prop
 | mk (r s x gm gt:Addr)(os:List Ot)(é:List (List Int))(fs:List zau)(us:List (List Int))(ê pM:List Int)(gb p:Int)(w N D Cc G B:Nat)(_:vs=[.ref r,.ref s,.ref x,.ref gm])(_:Fi H r os)(_:mL H s é)(_:xL C H x p w é fs us)(_:MB p w N é fs us)(_:zcy p w é fs us D Cc)(_:Nb p fs.length D Cc G B N)(_:D<=G)(_:∀y∈é,y.length=w/\Bd N y)(_:w<=420)(_:1000<=p)(_:é.length<=20000)(_:fs.length+os.length<=420)(_:H gm=some (.tup [.ref gt,.int gb]))(_:H gt=some (.lst (pM.map zaa)))(_:ê.length=w)(_:zbu é fs D N (zaf ê) pM gb)(_:∀o∈os,o.1<é.length/\zbu é fs D N (zan é o.1) o.2.1 o.2.2)(_:(os.map (fun o=>o.1)++zag fs).Nodup)(_:∀t wt H' W s,kD H H'->H' t=some (.tup [.str "bar",.ref wt,.int s])->H' wt=some (.lst (W.map zaa))->LX w fs.length N é fs os ê W s->Q (.ref t) H')(_:∀t ct H' mv,kD H H'->H' t=some (.tup [.str "way",.ref ct])->H' ct=some (.lst (mv.map zaa))->mv.length=é.length->Bd 40000 mv->(∀i:Nat,i<fs.length->(zab é.length fun j=>zan é j.toNat (zar fs i)*zai mv j.toNat)=zai ê (zar fs i))->Q (.ref t) H')
theorem xN (T:Txt K mg CF cN):Df P w K mg base 9 "sought_with" ["others","steps","frame","goal_made"] (V1 CF):=by
 refine mf T.d_sought_with xc fun f cdv A outer s H vs Q E hr nd h=>?_;obtain⟨r,s',x,gm,gt,os,é,fs,us,ê,pM,gb,p,w',N,D,Cc,G,B,rfl,⟨as,h1,pa⟩,hS,fa,fo,fm,nb,DG,lw,w4,ya,sz,k4,SC,Uv,Uw,AU,mo,SD,qb,qw⟩:=h;obtain⟨sas,PN,spa⟩:=id hS;have OU:=kQ spa;have la:=kQ pa;have N1:=nb.N1;have N2:=nb.N2;have GN:=nb.GN;have D1:=fm.D1;have eN:=oR N;obtain⟨k,hk⟩:∃k,k=fs.length:=⟨_,Z⟩;have gi0:m9 [zac gt,zaa gb] 0=some (.ref gt):=Z;have gi1:m9 [zac gt,zaa gb] 1=some (.int gb):=Z;have leD:∀M:Int,M∣(D:Int)->M<2^N:=fun M h=>by have:=aW J h;lia
 refine⟨_,(kh (kU 4 nd (k7 kT (pv 3) ks)) (kh (mD aJ Z (lG (pv 0)) (nI Z (kX (mT 5 nd) (kX (mT 6 nd) mS))) (ky (kU 4 nd (kW (Jg T) hr (kZ (pv 4) (k7 kT (pv 6) ks)))))) (kh (vV 7 [("modulus",4)] ["number","made"] nd (lG (pv 0)) (fun C s H fp=>⟨(uZ 1 2),lC,(kW (rT T) hr (kZ (pv 2) (pv 0)))⟩)) (kh (kU 8 nd (kW (rT T) hr (kZ (pv 3) (pv 4)))) (kh (kU 9 nd (kW (Ci T) hr (ki (pv 7) (ki (oG T.b_len (pv 8)) (ki (pv 4) kS))))) (kh (kU 10 nd (kK ua (pv 8) (kK pJ (mF (lJ ks)) (oG T.b_len (pv 7))))) (kh (mD aJ Z (pR kf T.b_enumerate (lJ (pv 9))) (nI Z (kX (mT 11 nd) (kX (mT 12 nd) mS))) (kh (mh (mC oN (kK lO (k7 lP (pv 10) (pv 11)) (k7 lP (pv 12) (pv 11))) ks) (ky (kM (kW (Av T) hr (kZ (pv 2) (kW (C9 T) hr (ki (pv 9) (ki (pv 11) (ki (pv 4) kS)))))))) k9) (ky (kU 10 nd (kW (sJ T) hr (ki (pv 10) (ki (kK lE (k7 lP (pv 10) (pv 11)) (k7 lP (pv 12) (pv 11))) (ki (pv 12) (ki (pv 4) kS))))))))) (kh (vV 13 [("modulus",4)] ["many"] nd (lG (uL wy (pv 10) (sQ (oG T.b_len (pv 8))) Ew)) (fun C s H fp=>⟨(oM 1),lC,(kW (xD T) hr (kZ (sG p7 (pv 1)) (pv 0)))⟩)) (kh (kU 14 nd (kW (yZ T) hr (ki (kK ua (mF (lJ (pv 8))) (pv 7)) (ki (kK ua (mF (lJ ks)) (om [] ["many"] (lG (pv 13)) (fun C s H fp=>⟨(oM 0),lC,(sG p7 (pv 0))⟩))) (ki (oG T.b_len (pv 8)) kS))))) (kh (kU 15 nd (kK ua (pv 13) (om [("modulus",4)] ["many"] (lG (pv 14)) (fun C s H fp=>⟨(oM 1),lC,(kK lE (pv 1) (pv 0))⟩)))) (ky (kM (mE (kZ mR (kW (yS T) hr (ki (oG T.b_len (pv 1)) (ki (kK ua (om [] ["number","made"] (lG (pv 0)) (fun C s H fp=>⟨(uZ 0 1),lC,(pv 0)⟩)) (nH (pv 2) Z)) (ki (pv 15) kS)))))))))))))))))),?_⟩;refine⟨_,Z,gm,_,_,_,Z,Z,lX.of SC,gi1,?_⟩;refine⟨_,Z,r,Z,⟨_,kR.of h1⟩,nu (K:=K) (xs:=as.map zac) (fun i σ H2=>H2=H/\∃(M:Int)(o1 o2:Option V),σ=[some (.ref r),some (.ref s'),some (.ref x),some (.ref gm),some (.int M),o1,o2,none,none,none,none,none,none,none,none,none]/\1<=M/\gb∣M/\M∣(D:Int)/\∀j o,j<i->os[j]?=some o->o.2.2∣M) ⟨Z,gb,none,none,Z,AU.b1,c7 _,AU.bD,fun j o hj=>absurd hj (bx _)⟩ (fun i σ H2 _ z=>by rw[z.1];exact kR.of h1) ?_ ?_⟩
 .rintro i y σ H2 hy ⟨rfl,M,o1,o2,rfl,M1,gM,MD,al⟩;obtain⟨a,rfl,ha⟩:=pI hy;obtain⟨o,ho,t,tt,LQ,ht,qk⟩:=mj pa ha;have m:=(mo o (ah ho)).2;have i1:m9 [zac tt,zaa o.2.2] 1=some (.int o.2.2):=Z;refine⟨a,_,Z,lX.of LQ,Z,_,_,Z,_,_,Z,Z,?_⟩;refine⟨_,Z,_,Z,t,_,_,_,Z,Z,lX.of ht,i1,M,o.2.2,N,Z,M1,m.b1,leD M MD,m.bN,N2,fun j j1 d1 d2 alD=>?_⟩;refine⟨Z,j,_,_,Z,j1,bJ gM d1,alD _ MD m.bD,fun j' o' Ua E3=>?_⟩;rcases Nat.lt_succ_iff_lt_or_eq.mp Ua with e | e
  .exact bJ (al j' o' e E3) d1
  .rw[e,ho] at E3;cases E3;exact d2
 rintro σ H2 ⟨rfl,M,o1,o2,rfl,M1,gM,MD,al⟩;have MN:=leD M MD;rw[aa,la] at al;have alM:∀o∈os,o.2.2∣M:=fun o ho=>by
  obtain⟨j,hj⟩:=List.getElem?_of_mem ho;exact al j o (aF.mp hj).1 hj
 -- è
 obtain⟨è,zF⟩:∃è:List (List Int),è=os.map fun o=>zbr o.2.1 (M/o.2.2):=⟨_,Z⟩;have zG:è.length=os.length:=by rw[zF,aa]
 refine⟨_,Z,r,Z,⟨_,kR.of h1⟩,?_⟩;refine p9 (K:=K) (xs:=as.map zac) è (by rw[zG,aa,la]) ziU (kR.of h1) ?_ ?_
 .intro i y H3 hy mJ R kk;obtain⟨a,rfl,ha⟩:=pI hy;obtain⟨o,ho,t,tt,LQ,ht,qk⟩:=mj pa ha;have m:=(mo o (ah ho)).2;refine⟨a,_,Z,lX.of (mJ _ _ LQ),Z,_,_,Z,_,_,Z,Z,?_⟩;exact⟨_,Z,_,Z,t,tt,o.2.1,o.2.2,M,N,Z,mJ _ _ ht,mJ _ _ qk,by rw[m.len];lia,m.b1,m.bN,J,MN,m.bd,N2,fun u H4 nJ h4=>kk H4 u _ nJ (by rw[zF,af,ho];rfl) h4⟩
 intro ro H3 mJ _ Gq
 -- ê
 obtain⟨gw,SE⟩:∃gw:List Int,gw=zbr pM (M/gb):=⟨_,Z⟩;have MH:gw.length=k:=by rw[SE,Rx.Au,AU.len,hk]
 refine⟨_,Z,_,Z,gm,gt,pM,gb,M,N,Z,mJ _ _ SC,mJ _ _ Uv,by rw[AU.len];lia,AU.b1,AU.bN,J,MN,AU.bd,N2,fun gl H4 nJ Sf=>?_⟩;rw[<-SE] at Sf;have JE:=mJ.trans nJ;have lrw:∀row∈è,row.length=k:=fun row h=>by
  rw[zF] at h;obtain⟨o,ho,rfl⟩:=List.mem_map.mp h;rw[Rx.Au,((mo o ho).2).len,hk]
 have Y9:∀b:Int,1<=b->0<=M/b/\M/b<=M:=fun b b1=>⟨cK J J,b8 b J⟩;have whb:∀(á:List Int)(b:Int),1<=b->(∀y∈á,y.natAbs<2^N)->Bd (2*N) (zbr á (M/b)):=fun á b b1 bt y hy=>by
  unfold zbr at hy;obtain⟨z,hz,rfl⟩:=List.mem_map.mp hy;have a:=bt z hz;have q:=Y9 b b1;rw[aR,show 2*N=N+N by lia,h8];have n2:(M/b).natAbs<2^N:=J;have:=dr (eJ a) (show (M/b).natAbs<=2^N by lia);rcases Nat.eq_zero_or_pos (M/b).natAbs with c | c
  .rw[c,Nat.mul_zero];exact fZ (fI O) (fI O)
  .exact bj (Nat.mul_lt_mul_of_pos_right a c) (eR _ J)
 have Za:Bd (2*N) gw:=by rw[SE];exact whb _ _ AU.b1 AU.bd
 have rwb:∀row∈è,row.length=k/\Bd (2*N) row:=fun row h=>⟨lrw row h,by
  rw[zF] at h;obtain⟨o,ho,rfl⟩:=List.mem_map.mp h;exact whb _ _ ((mo o ho).2).b1 ((mo o ho).2).bd⟩
 refine⟨_,Z,_,Z,gl,_,Z,.inl (kR.of Sf),_,Z,ro,è,k,os.length,N,M,(by rw[aa,MH];rfl),Gq.same nJ,zG,lrw,J,M1,MN,J,N2,fun tl H5 ls ol Sx L=>?_⟩;have JF:=JE.trans ol;have SF:=ol _ _ Sf;obtain⟨SG,JB,JC⟩:=(Gq.same nJ).same ol;have SH:=kQ JC;have lsl:=L.len
 -- left
 refine⟨_,Z,kC,fun lo zD=>⟨_,Z,ro,_,Z,.inl (kR.of (ku (kD.refl _) zD _ _ JB)),?_⟩⟩;rw[aa,SH,zG];refine⟨lo,_,_,Z,Z,ko,J,J,ziV,fun pz hpz=>?_⟩;rw[rep0];have rh:=ku (o:=.lst ((List.replicate os.length (0:Int)).map zaa)) (ku (o:=.lst [zaa 0]) (kD.refl H5) zD) hpz;have SI:upd (upd H5 lo (.lst [zaa 0])) pz (.lst ((List.replicate os.length (0:Int)).map zaa)) pz=some (.lst ((List.replicate os.length (0:Int)).map zaa)):=ko;generalize upd (upd H5 lo (.lst [zaa 0])) pz (.lst ((List.replicate os.length (0:Int)).map zaa))=H6 at rh SI ⊢;refine⟨gl,pz,_,_,Z,Z,rh _ _ SF,SI,by rw[aa,aa,aQ,MH];exact n5 J,fun lf hlf=>?_⟩;have se:=ku (o:=.lst (gw.map zaa++(List.replicate os.length (0:Int)).map zaa)) (kD.refl H6) hlf;have SJ:upd H6 lf (.lst (gw.map zaa++(List.replicate os.length (0:Int)).map zaa)) lf=some (.lst ((gw++List.replicate os.length 0).map zaa)):=by rw[ko,aS]
 generalize upd H6 lf (.lst (gw.map zaa++(List.replicate os.length (0:Int)).map zaa))=H7 at se SJ ⊢;have SK:=(JF.trans rh).trans se;have SM:=(Sx.same rh).same se;obtain⟨las,E8,OC⟩:=id SM;have Zb:=kQ OC;have b0:Bd (2*N) (gw++List.replicate os.length 0):=fun y hy=>by
  rcases List.mem_append.mp hy with c | c
  .exact Za y c
  .rw[(e8.mp c).2];exact fI O
 refine⟨_,Z,tl,Z,⟨_,kR.of E8⟩,p5 (K:=K) (xs:=las.map zac) (fun c σ H8=>kD H7 H8/\∃(lt:Addr)(left:List Int)(o3 o4:Option V),σ=[some (.ref r),some (.ref s'),some (.ref x),some (.ref gm),some (.int M),o1,o2,some (.ref ro),some (.ref gl),some (.ref tl),some (.ref lt),o3,o4,none,none,none]/\H8 lt=some (.lst (left.map zaa))/\Rx.Gl M k os.length è gw ls c left/\Bd (2*N) left) ⟨kD.refl _,lf,_,none,none,Z,SJ,.start MH ls,b0⟩ (fun i σ H8 _ z=>z.1.seq (kR.of E8)) ?_ ?_⟩
 .rintro c y σ H8 pp hx ⟨uP,lt,left,o3,o4,rfl,qy,MI,lb⟩ Ck;obtain⟨a,l,rfl,ha,qm,hh⟩:=nF OC hx;have cl:c<k:=by rw[<-lsl];exact(aF.mp qm).1
  have t:=L.Dm.at qm;rw[dY] at t;have PM:=BC MN (L.up l (ah qm));have rM:=ku (o:=.tup [.int (c:Nat),.ref a]) (kD.refl H8) Ck;have SN:=uP.trans rM;have OV:=rM _ _ qy;have LR:=SN _ _ hh;have Ux:left.length=k+os.length:=MI.len;have cg:m9 (left.map zaa) (c:Int)=some (.int (zai left c)):=m8 ziW;have OL:m9 (l.map zaa) (c:Int)=some (.int (zai l c)):=m8 (by rw[af,zcl (by rw[t.1];lia)];rfl);have l1:=t.2.2.1;have lN:=PM _ (zbd (l:=l) (i:=c) (by rw[t.1];lia));refine⟨pp,_,Z,lX.of ko,Z,_,_,Z,_,_,Z,Z,?_⟩;refine⟨_,Z,_,Z,lt,_,_,_,Z,Z,kR.of OV,cg,_,Z,_,Z,a,_,_,_,Z,Z,kR.of LR,OL,_,_,Z,Z,(show 0<zai l c by lia),Z,_,Z,nw (fun cc=>?_) (fun cc=>?_)⟩
  .have nz:=Mr cc;have MJ:=(SK.trans uP).trans rM;refine⟨_,Z,_,Z,_,Z,_,Z,tl,è,ls,k,os.length,os.length,c,N,M,Z,(SM.same uP).same rM,L,cl,J,M1,MN,J,N2,fun ta H9 am wb _ SO lam uam bar=>?_⟩;have smC:=MJ.trans wb;have Zc:∀j,j<fs.length->(zai am j).natAbs<=G:=fun j hj=>by
    have:=uam _ (zbd (l:=am) (i:=j) J);have:=aW J MD;lia
   refine⟨x,ta,é,fs,us,am,p,w',N,D,Cc,G,B,Z,fa.same smC,fo,fm,nb,lw,w4,ya,SO,by rw[lam,hk],Zc,fun t wt AT á b AI Zd Uy lt10 b1 bN sol=>?_⟩;refine qb t wt AT _ b (smC.trans AI) Zd Uy ?_;have kill:Lt.Fo M k (zaf am) ls:=fun l' hl'=>by
    obtain⟨j,hj⟩:=List.getElem?_of_mem hl';exact bar.kl j l' (cX _) hj
   have main:∀(v:List Int)(T:List Int),v.length=w'->T.length=k->(∀i:Nat,i<k->(zab k fun j=>zan é (zay fs j.toNat) (zar fs i)*zaf T j)=M*zaf v (zar fs i))->(b∣zao v ((zbi w' (zaq fs) á).map fun y=>y%b)↔M∣zde k T (zaf am)):=fun v T lv lT hT=>by
    have d1:=Rx.Ki (s:=b) lv (Rx.o6 w' (zaq fs) á);rw[Rx.D4 fm.hp fo.crn lv lt10] at d1;refine(Lt.oK d1).trans ?_;have e:=Rx.Ov (k:=k) (U:=fun i t=>zan é (zay fs i) (zar fs t)) (x:=zaf á) (am:=zaf am) (T:=zaf T) (v:=fun t=>zaf v (zar fs t.toNat)) (s:=b) (M:=M) (fun i hi=>by
     have:=sol i J;rw[<-hk] at this;unfold zaf at this ⊢;rw[ae];exact this) (fun t ht=>(by rw[ae];exact hT t ht))
    rw[<-hk];refine(Rx.KW b1 M1 e).trans ?_;unfold zde zaf;exact Iff.rfl
   refine⟨by rw[aa,Rx.o6],b1,bN,Rx.In.mod J _ fun y=>y,fun i hi=>?_,fun o ho=>?_,fun dg=>?_,?_⟩
   .have nn:=fo.crn.sW hi;have lv:=(lw _ (zbm (è:=é) nn)).1;refine(main _ (zbw k i M) lv (zda ..) fun c' xW=>?_).mpr ?_
    .have:(zab k fun j=>zan é (zay fs j.toNat) (zar fs c')*zaf (zbw k i M) j)=zab k fun j=>M*zan é (zay fs j.toNat) (zar fs c')*if j=(i:Int) then 1 else 0:=zad fun j hj=>by
      unfold zaf;rw[ae,Rx.p4 J]
      by_cases z:j=i
      .rw[aB z,aB J];grind
      .rw[ak z,ak J];grind
     rw[this,Mx.mY (F:=fun j=>M*zan é (zay fs j.toNat) (zar fs c')) J,ae];rfl
    .unfold zde;refine Mx.vA fun j hj=>?_;rw[ae,Rx.p4 J];split
     .exact dh ..
     .rw[bn];exact bq _
   .have m:=mo o ho;have lv:=(lw _ (zbm (è:=é) m.1)).1;refine(main _ (zbr o.2.1 (M/o.2.2)) lv (by rw[Rx.Au,m.2.len,hk]) fun c' xW=>?_).mpr ?_
    .rw[hk];refine Rx.EH (U:=fun j t=>zan é (zay fs j) (zar fs t)) m.2.len m.2.b1 (alM o ho) ?_;rw[m.2.eq c' J];rfl
    .obtain⟨j,hj⟩:=List.getElem?_of_mem ho;have:=L.kill _ kill j (aF.mp hj).1;rwa [zbx (row:=zbr o.2.1 (M/o.2.2)) (by rw[zF,af,hj];rfl)] at this
   .have d2:=(main ê gw Uw MH fun c' xW=>by
     rw[SE,hk];refine Rx.EH (U:=fun j t=>zan é (zay fs j) (zar fs t)) AU.len AU.b1 gM ?_;exact AU.eq c' J).mp dg
    have d3:=MI.dd _ kill;refine bar.not M1 L.Dm cl qm MI.zero (fun z=>nz ?_) ((Lt.oK d3).mpr d2);exact bS z
   .lia
  .have ze:=FA cc;have dv:zai l c∣zai left c:=bR ze;have lcb:=lb _ (zbd (l:=left) (i:=c) J);have YK:(zai left c/zai l c).natAbs<2^(2*N):=by
    have e:=gA dv;have n:(zai left c/zai l c).natAbs*(zai l c).natAbs=(zai left c).natAbs:=by rw[<-aR,e]
    have:=eR (zai left c/zai l c).natAbs (show 1<=(zai l c).natAbs by lia);lia
   refine⟨_,Z,_,Z,_,Z,lt,_,_,_,Z,Z,kR.of OV,cg,_,Z,_,Z,a,_,_,_,Z,Z,kR.of LR,OL,_,_,Z,Z,t7 J lN N2,_,Z,_,Z,lt,a,left,l,_,M,2*N,N,Z,OV,LR,by rw[Ux,t.1],J,J,YK,PM,J,J,fun t9 H9 wb h9=>?_⟩;refine⟨SN.trans wb,t9,_,_,_,Z,h9,MI.step M1 L qm dv,?_⟩;have M2:M<2^(2*N):=by
    have:=bU (n:=2) O (show N<=2*N by lia);have e2:=oR (2*N);lia
   exact G4 J M2 lb
 rintro σ H8 ⟨uP,lt,left,o3,o4,rfl,qy,MI,lb⟩;rw[aa,Zb,lsl] at MI;have Ze:=SK.trans uP;have SQ:=uP _ _ (se _ _ (rh _ _ SF));have Ux:left.length=k+os.length:=MI.len
 -- taken
 refine⟨_,Z,_,Z,gl,_,Z,.inl (kR.of SQ),_,Z,lt,_,Z,kR.of qy,fun cu hcu=>?_⟩;rw[aa,MH,A7];have wb:=ku (o:=.lst ((left.drop k).map zaa)) (kD.refl H8) hcu;have OW:upd H8 cu (.lst ((left.drop k).map zaa)) cu=some (.lst ((left.drop k).map zaa)):=ko;generalize upd H8 cu (.lst ((left.drop k).map zaa))=H9 at wb OW ⊢;obtain⟨tk,htk⟩:∃tk:List Int,tk=(left.drop k).map fun y=>zbs (-y) M:=⟨_,Z⟩;have MK:tk.length=os.length:=by rw[htk,aa,cI,Ux];lia
 have tkb:Bd N tk:=fun y hy=>by
  rw[htk] at hy;obtain⟨z,_,rfl⟩:=List.mem_map.mp hy;have:=Rx.Q8 (n:=-z) (show 0<M by lia);lia
 refine⟨cu,Z,⟨_,kR.of OW⟩,?_⟩;refine mP (K:=K) (xs:=(left.drop k).map zaa) tk (by rw[MK,aa,cI,Ux];lia) (by rw[aa,cI];lia) (kR.of OW) ?_ ?_
 .intro i y AT hy AI R kk;obtain⟨u,rfl,hu⟩:=int_at hy;exact⟨_,Z,_,Z,_,Z,-u,M,Z,J,kk _ _ (kD.refl _) (by rw[htk,af,hu];rfl)⟩
 intro tka AT AI _ OX;have SR:=(Ze.trans wb).trans AI;have ML:=AI _ _ (wb _ _ SQ);have Zf:=AI _ _ (wb _ _ (uP _ _ (se _ _ (rh _ _ JB))));have SS:=lZ ((((rh.trans se).trans uP).trans wb).trans AI) JC
 -- qo
 refine⟨_,Z,kC,fun l1 SU=>⟨_,Z,l1,ro,_,_,Z,Z,ko,ku (kD.refl _) SU _ _ Zf,by rw[aa,SH,zG];exact n5 (by show 1+_<=_;lia),fun l2 Zg=>?_⟩⟩;have re:=ku (o:=.lst ([zac gl]++SG.map zac)) (ku (o:=.lst [zac gl]) (kD.refl AT) SU) Zg;have MM:upd (upd AT l1 (.lst [zac gl])) l2 (.lst ([zac gl]++SG.map zac)) l2=some (.lst ((gl::SG).map zac)):=ko;generalize upd (upd AT l1 (.lst [zac gl])) l2 (.lst ([zac gl]++SG.map zac))=vQ at re MM ⊢;refine⟨kC,fun l3 SV=>⟨_,Z,tka,Z,⟨_,kR.of (ku (kD.refl _) SV _ _ (re _ _ OX))⟩,?_⟩⟩;have ow:=ku (o:=.lst [zaa 1]) (kD.refl vQ) SV;have MO:upd vQ l3 (.lst [zaa 1]) l3=some (.lst [zaa 1]):=ko;generalize upd vQ l3 (.lst [zaa 1])=Y2 at ow MO ⊢;refine mP (K:=K) (xs:=tk.map zaa) (tk.map fun y=>-y) ziY ziU (kR.of (ow _ _ (re _ _ OX))) ?_ ?_
 .intro i y PP hy yc R kk;obtain⟨u,rfl,hu⟩:=int_at hy;exact⟨_,Z,_,Z,kk _ _ (kD.refl _) (by rw[af,hu];rfl)⟩
 intro ng PP yc _ hng;refine⟨l3,ng,_,_,Z,Z,yc _ _ MO,hng,by rw[aa,aa,MK];exact n5 (by show 1+_<=_;lia),fun l4 Zh=>?_⟩;have OY:=ku (o:=.lst ([zaa 1]++(tk.map fun y=>-y).map zaa)) (kD.refl PP) Zh;have MP:upd PP l4 (.lst ([zaa 1]++(tk.map fun y=>-y).map zaa)) l4=some (.lst ((1::tk.map fun y=>-y).map zaa)):=ko;generalize upd PP l4 (.lst ([zaa 1]++(tk.map fun y=>-y).map zaa))=H14 at OY MP ⊢;have yd:=((re.trans ow).trans yc).trans OY;have Zi:mL H14 l2 (gw::è):=⟨gl::SG,OY _ _ (yc _ _ (ow _ _ MM)),.cons (yd _ _ ML) (lZ yd SS)⟩;have bc:Bd (N+1) (1::tk.map fun y=>-y):=fun y hy=>by
  rcases List.mem_cons.mp hy with e | e
  .rw[e];exact Nat.one_lt_two_pow J
  .obtain⟨z,hz,rfl⟩:=List.mem_map.mp e;have:=tkb z hz;rw[hZ,dQ];lia
 refine⟨_,Z,gl,_,Z,.inl (kR.of (yd _ _ ML)),l2,l4,gw::è,1::tk.map (fun y=>-y),k,os.length+1,2*N,N+1,(by rw[aa,MH];rfl),Zi,MP,by rw[bE,zG],by rw[bE,aa,MK],fun y hy=>?_,bc,J,J,J,J,fun sp H15 qo SW hsp lsp eqs=>?_⟩
 .rcases List.mem_cons.mp hy with e | e
  .rw[e];exact⟨MH,Za⟩
  .exact rwb y e
 have SX:∀c:Nat,c<k->zai qo c=zai gw c-zab os.length fun j=>zaf tk j*zcz è j.toNat c:=fun c hc=>by rw[eqs c hc,Rx.sum_cons MK]
 have spd:∀c:Nat,c<k->M∣zai qo c:=fun c hc=>by
  rw[SX c hc];have:=MI.end M1 (tk:=fun j=>zaf tk j) (fun j hj=>by
   unfold zaf
   try dsimp only
   rw[ae];have e:zai tk j=zbs (-(zai left (k+j))) M:=by
    rw[htk,Rx.rY (by rw[cI];lia),Rx.CU]
   rw[e];have:=Rx.Na (-(zai left (k+j))) M;rwa [Int.sub_neg] at this) c hc
  have e2:(zab os.length fun j=>zaf tk (j.toNat:Int)*zcz è j.toNat c)=zab os.length fun j=>zaf tk j*zcz è j.toNat c:=zad fun j _=>by rw[ae]
  rw[e2] at this;exact this
 have spb:Bd (3*N+12) qo:=fun y hy=>by
  obtain⟨c,hc,rfl⟩:=zck hy;rw[eqs c J];have b:=Sg.yo (m:=os.length+1) (F:=fun j=>zai (1::tk.map fun y=>-y) j.toNat*zai ((gw::è).getD j.toNat []) c) (B:=2^(N+1)*2^(2*N)) fun j hj=>by
   show (zai (1::tk.map fun y=>-y) (j:Int).toNat*zai ((gw::è).getD (j:Int).toNat []) c).natAbs<=_
   rw[ae,aR];refine dr (eJ (bc _ (zbd (by rw[bE,aa,MK];lia)))) ?_;have rm:(gw::è).getD j []∈gw::è:=zbm (by rw[bE,zG];lia);have rl:((gw::è).getD j []).length=k/\Bd (2*N) ((gw::è).getD j []):=by
    rcases List.mem_cons.mp rm with e | e
    .rw[e];exact⟨MH,Za⟩
    .exact rwb _ e
   exact eJ (rl.2 _ (zbd J))
  have e3:2^(3*N+12)=2048*(2^(N+1)*2^(2*N)):=by rw[<-h8,show 3*N+12=11+(N+1+2*N) by lia,h8]
  have p3:0<2^(N+1)*2^(2*N):=fZ (fI O) (fI O);generalize 2^(N+1)*2^(2*N)=ziR at b e3 p3;have:(os.length+1)*ziR<=421*ziR:=cJ _ J;rw[e3];lia
 -- counts
 obtain⟨sq,Uz⟩:∃sq:List Int,sq=qo.map fun y=>y/M:=⟨_,Z⟩;have UA:sq.length=k:=by rw[Uz,aa,lsp]
 have SY:=SW _ _ (yd _ _ OX);refine⟨_,Z,_,Z,sp,Z,⟨_,kR.of hsp⟩,?_⟩;refine mP (K:=K) (xs:=qo.map zaa) sq (by rw[UA,aa,lsp]) ziU (kR.of hsp) ?_ ?_
 .intro i y UB hy OZ R kk;obtain⟨u,rfl,hu⟩:=int_at hy;exact⟨_,Z,_,Z,_,_,Z,Z,t7 J (show M.natAbs<2^N by lia) N2,kk _ _ (kD.refl _) (by rw[Uz,af,hu];rfl)⟩
 intro sqa UB OZ _ Zj;refine⟨tka,sqa,_,_,Z,Z,OZ _ _ SY,Zj,by rw[aa,aa,MK,UA];exact n5 J,fun ca Ud=>?_⟩;have SZ:=ku (o:=.lst (tk.map zaa++sq.map zaa)) (kD.refl UB) Ud;have MQ:upd UB ca (.lst (tk.map zaa++sq.map zaa)) ca=some (.lst ((tk++sq).map zaa)):=by rw[ko,aS]
 generalize upd UB ca (.lst (tk.map zaa++sq.map zaa))=H17 at SZ MQ ⊢;have Cn:=(((SR.trans yd).trans SW).trans OZ).trans SZ
 -- the way
 obtain⟨dx,ff,ch,co,ro',un,hx,hf,AQ,_⟩:=(fa.same Cn).ex;have S3:=Cn _ _ h1;refine⟨_,Z,s',_,Z,.inl (kR.of (Cn _ _ PN)),_,Z,r,Z,⟨_,kR.of S3⟩,?_⟩;refine mP (K:=K) (xs:=as.map zac) (ni (os.map fun o=>o.1)) (by rw[aa,aa,aa,la]) ziU (kR.of S3) ?_ ?_
 .intro i y UC hy yG R kk;obtain⟨a,rfl,ha⟩:=pI hy;obtain⟨o,ho,t,tt,LQ,ht,qk⟩:=mj pa ha;exact⟨a,_,Z,lX.of (yG _ _ (Cn _ _ LQ)),Z,_,_,Z,_,_,Z,Z,_,Z,kk _ _ (kD.refl _) (by rw[af,af,ho];rfl)⟩
 intro na UC yG _ hna;refine⟨_,Z,x,CF,dx,_,_,Z,yG _ _ hx,T.cl_Frame,T.na_chosen,zf _ _ _ _ _ _ _ _,na,ch,_,_,Z,Z,hna,yG _ _ AQ,by rw[aa,aa,aa,aa,aa];unfold zag;rw[List.length_map];exact n5 J,fun UD Zk=>?_⟩;have O0:=ku (o:=.lst ((ni (os.map fun o=>o.1)).map zaa++(ni (zag fs)).map zaa)) (kD.refl UC) Zk;have MR:upd UC UD (.lst ((ni (os.map fun o=>o.1)).map zaa++(ni (zag fs)).map zaa)) UD=some (.lst ((ni (os.map (fun o=>o.1)++zag fs)).map zaa)):=by rw[ko];simp only[ni,List.map_append]
 generalize upd UC UD (.lst ((ni (os.map fun o=>o.1)).map zaa++(ni (zag fs)).map zaa))=H19 at O0 MR ⊢;have LO:(zag fs).length=k:=by unfold zag;rw[List.length_map,hk]
 have plt:∀n∈os.map (fun o=>o.1)++zag fs,n<é.length:=fun n hn=>by
  rcases List.mem_append.mp hn with c | c
  .obtain⟨o,ho,rfl⟩:=List.mem_map.mp c;exact(mo o ho).1
  .exact Rx.wB fo.crn n c
 refine⟨_,Z,é.length,UD,ca,os.map (fun o=>o.1)++zag fs,tk++sq,(by rw[aa,OU];rfl),MR,O0 _ _ (yG _ _ MQ),by rw[aI,aI,aa,MK,UA,LO],plt,sz,fun cn H20 Zl _ hcn=>?_⟩;refine⟨kq,fun tw htw=>?_⟩;refine qw tw cn _ _ (ku (((Cn.trans yG).trans O0).trans Zl) htw) ko (ku (kD.refl _) htw _ _ hcn) (Rx.o6 ..) (fun y hy=>?_) fun i hi=>?_
 .rcases Rx.EF hy with e | e
  .rw[e];exact fI O
  .rcases List.mem_append.mp e with c | c
   .exact rC tkb J y c
   .rw[Uz] at c;obtain⟨z,hz,rfl⟩:=List.mem_map.mp c;obtain⟨j,hj,rfl⟩:=zck hz;have e:=gA (spd j J);have n:(zai qo j/M).natAbs*M.natAbs=(zai qo j).natAbs:=by rw[<-aR,e]
    have:=eR (zai qo j/M).natAbs (show 1<=M.natAbs by lia);have b:=spb _ hz;exact bj (show (zai qo j/M).natAbs<2^(3*N+12) by lia) (bU O J)
 .have e:=Rx.Rj (n:=é.length) (F:=fun j=>zan é j.toNat (zar fs i)) (os:=os.map fun o=>o.1) (cs:=zag fs) (by rw[aa]) LO MK UA SD plt;rw[e];have we:=Rx.N6 (k:=k) (r:=os.length) (U:=fun j t=>zan é (zay fs j) (zar fs t)) (M:=M) (gv:=zaf ê (zar fs i)) (t:=i) (goalw:=zaf gw) (R:=zcz è) (sv:=fun j=>zan é ((os.map fun o=>o.1).getD j 0) (zar fs i)) (tk:=zaf tk) (sp:=zaf sq) M1 (by
    rw[SE,hk];exact Rx.EH (U:=fun j t=>zan é (zay fs j) (zar fs t)) AU.len AU.b1 gM (AU.eq i hi)) (fun j hj=>by
    obtain⟨o,ho⟩:∃o,os[j]?=some o:=⟨_,List.getElem?_eq_getElem hj⟩;have m:=mo o (ah ho);have er:è.getD j []=zbr o.2.1 (M/o.2.2):=zbx (by rw[zF,af,ho];rfl);have en:(os.map fun o=>o.1).getD j 0=o.1:=by rw[ao,af,ho];rfl
    have a:(zab k fun i'=>zan é (zay fs i'.toNat) (zar fs i)*zcz è j i')=zab k fun i'=>zan é (zay fs i'.toNat) (zar fs i)*zaf (zbr o.2.1 (M/o.2.2)) i':=zad fun i' _=>by
     unfold zcz zaf;rw[er]
    try dsimp only
    rw[a,en,hk];exact Rx.EH (U:=fun j t=>zan é (zay fs j) (zar fs t)) m.2.len m.2.b1 (alM o (ah ho)) (m.2.eq i hi)) (fun c hc=>by
    have e1:zaf sq c=zai qo c/M:=by
     unfold zaf;rw[ae,Uz,Rx.rY J]
    have e2:zaf gw c=zai gw c:=by unfold zaf;rw[Int.toNat_natCast]
    rw[e1,e2,cZ (spd c hc),SX c hc])
  have f1:zaf ê (zar fs i)=zai ê (zar fs i):=by unfold zaf;rw[Int.toNat_natCast]
  rw[<-f1,<-we];congr 1
  .refine zad fun j hj=>?_;unfold zaf
   try dsimp only
   rw[ae,ae,aC]
  .refine zad fun j hj=>?_;unfold zaf
   try dsimp only
   rw[ae,ae,aC,ao,Rx.ER J];rfl
theorem Kq {H:Hp}{ziT a t tt:Addr}{os:List Ot}{o:Ot}(hO:H ziT=some (.lst (as.map zac)))(pa:Paired (IS H) as os)(ne:∀o∈os,o.2.1≠[])(ha:H a=some (.tup [.int o.1,.ref t]))(ht:H t=some (.tup [.ref tt,.int o.2.2]))(qk:H tt=some (.lst (o.2.1.map zaa)))(nl:o.2.1≠[]):Fi (upd H ziT (.lst (as.map zac++[.ref a]))) ziT (os++[o]):=by
 have ne1:∀(b:Addr)(x:List Int),x≠[]->H b=some (.lst (x.map zaa))->b≠ziT:=fun b x hx hb=>oB hb hO fun z=>by
  injection z with z;cases x with
  | nil=>exact hx Z
  | cons y ys=>cases as with
   | nil=>cases z
   | cons a0 T3=>injection z with z1;cases z1
 have keep:∀(a:Addr)(x:Ot),x.2.1≠[]->IS H a x->IS (upd H ziT (.lst (as.map zac++[.ref a]))) a x->iG:=fun _ _ _ _ _=>trivial;have k2:∀{o':HO}(a:Addr)(x:Ot),x.2.1≠[]->IS H a x->IS (upd H ziT o') a x:=fun a x hx ⟨t,tt,u,v,y⟩ =>
  ⟨t,tt,(kO (oB u hO (by intro z;cases z))).trans u,(kO (oB v hO (by intro z;cases z))).trans v,(kO (ne1 _ _ hx y)).trans y⟩
 have go:∀{uO:List Addr}{Pn:List Ot}{o':HO},(∀o∈Pn,o.2.1≠[])->Paired (IS H) uO Pn->Paired (IS (upd H ziT o')) uO Pn:=fun {uO Pn o'} hn p=>by
  induction p with
  | nil=>exact .nil
  | cons h _ ih=>exact .cons (k2 _ _ (hn _ av) h) (ih fun o ho=>hn o (ar _ ho))
 exact⟨as++[a],by rw[ko,aS];rfl,L2.Paired.Cw (go ne pa) (.cons (k2 _ _ nl ⟨t,tt,ha,ht,qk⟩) .nil)⟩
def Z8 (w N:Nat)(é:List (List Int))(fs:List zau)(os:List Ot)(ê:List Int)(H1:Hp)(t:Addr):Prop:=(∃wt W s,H1 t=some (.tup [.str "bar",.ref wt,.int s])/\H1 wt=some (.lst (W.map zaa))/\LX w fs.length N é fs os ê W s)\/(∃ct mv,H1 t=some (.tup [.str "way",.ref ct])/\H1 ct=some (.lst (mv.map zaa))/\mv.length=é.length/\Bd 40000 mv/\∀i:Nat,i<fs.length->(zab é.length fun j=>zan é j.toNat (zar fs i)*zai mv j.toNat)=zai ê (zar fs i))
inductive Rv (C:Addr)(vs:List V)(H:Hp)(Q:VK)(_:XK):Prop
 | mk (r s x gm gt:Addr)(os:List Ot)(é:List (List Int))(fs:List zau)(us:List (List Int))(ê pM:List Int)(gb p:Int)(w N D Cc G B:Nat)(_:vs=[.ref r,.ref s,.ref x,.ref gm])(_:Fi H r os)(_:mL H s é)(_:xL C H x p w é fs us)(_:MB p w N é fs us)(_:zcy p w é fs us D Cc)(_:Nb p fs.length D Cc G B N)(_:D<=G)(_:∀y∈é,y.length=w/\Bd N y)(_:w<=420)(_:1000<=p)(_:é.length<=20000)(_:fs.length+os.length<=420)(_:H gm=some (.tup [.ref gt,.int gb]))(_:H gt=some (.lst (pM.map zaa)))(_:ê.length=w)(_:zbu é fs D N (zaf ê) pM gb)(_:∀o∈os,o.1<é.length/\zbu é fs D N (zan é o.1) o.2.1 o.2.2)(_:(os.map (fun o=>o.1)++zag fs).Nodup)(_:∀t H',kD H H'->Z8 w N é fs os ê H' t->Q (.ref t) H')
theorem rO (T:Txt K mg CF cN):Df P w K mg base 9 "sought_with" ["others","steps","frame","goal_made"] (Rv CF):=by
 obtain⟨f,fd,F,rr⟩:=(xN (P:=P) (w:=w) (base:=base) T).ex;refine⟨f,fd,F.imp fun vs H Q E h=>?_,rr⟩;obtain⟨r,s,x,gm,gt,os,é,fs,us,ê,pM,gb,p,w',N,D,Cc,G,B,e,a1,a2,a3,a4,a5,a6,a7,a8,a9,Rk,Qz,RA,QR,Q3,PZ,Vj,Xq,XJ,q⟩:=h;exact⟨r,s,x,gm,gt,os,é,fs,us,ê,pM,gb,p,w',N,D,Cc,G,B,e,a1,a2,a3,a4,a5,a6,a7,a8,a9,Rk,Qz,RA,QR,Q3,PZ,Vj,Xq,XJ,fun t wt H2 W s mX h1 h2 sb=>q t H2 mX (.inl ⟨wt,W,s,h1,h2,sb⟩),fun t ct H2 mv mX h1 h2 l b e=>q t H2 mX (.inr ⟨ct,mv,h1,h2,l,b,e⟩)⟩
structure HQ (C:Addr)(H:Hp)(s x:Addr)(p:Int)(w N D Cc G B:Nat)(é:List (List Int))(fs:List zau)(us:List (List Int)):Prop where
 hS:mL H s é
 fa:xL C H x p w é fs us
 fo:MB p w N é fs us
 fm:zcy p w é fs us D Cc
 nb:Nb p fs.length D Cc G B N
 DG:D<=G
 CG:Cc<=G
 lw:∀y∈é,y.length=w/\Bd N y
 w4:w<=420
 p3:1000<=p
 sz:é.length<=420
theorem HQ.same {C:Addr}{H H':Hp}{s x:Addr}{p:Int}{w N D Cc G B:Nat}{é:List (List Int)}{fs:List zau}{us:List (List Int)}(h:HQ C H s x p w N D Cc G B é fs us)(sm:kD H H'):HQ C H' s x p w N D Cc G B é fs us :=
 ⟨h.hS.same sm,h.fa.same sm,h.fo,h.fm,h.nb,h.DG,h.CG,h.lw,h.w4,h.p3,h.sz⟩
inductive P9 (C:Addr)(vs:List V)(H:Hp)(Q:VK)(_:XK):Prop
 | mk (s x gm gt:Addr)(é:List (List Int))(fs:List zau)(us:List (List Int))(ê pM:List Int)(gb p:Int)(w N D Cc G B:Nat)(_:vs=[.ref s,.ref x,.ref gm])(_:HQ C H s x p w N D Cc G B é fs us)(_:H gm=some (.tup [.ref gt,.int gb]))(_:H gt=some (.lst (pM.map zaa)))(_:ê.length=w)(_:zbu é fs D N (zaf ê) pM gb)(_:∀t wt H' W s,kD H H'->H' t=some (.tup [.str "bar",.ref wt,.int s])->H' wt=some (.lst (W.map zaa))->W.length=w->1<=s->Bd N W->zcc é ê W s->Q (.ref t) H')(_:∀t ct H' mv,kD H H'->H' t=some (.tup [.str "way",.ref ct])->H' ct=some (.lst (mv.map zaa))->mv.length=é.length->Bd 40000 mv->(∀i:Nat,i<fs.length->(zab é.length fun j=>zan é j.toNat (zar fs i)*zai mv j.toNat)=zai ê (zar fs i))->Q (.ref t) H')
theorem uS (T:Txt K mg CF cN):Df P w K mg base 10 "sought_within" ["steps","frame","goal_made"] (P9 CF):=by
 refine mf T.d_sought_within vp fun f cdv A outer s H vs Q E hr nd h=>?_;obtain⟨s',x,gm,gt,é,fs,us,ê,pM,gb,p,w',N,D,Cc,G,B,rfl,e0,SC,Uv,Uw,AU,qb,qw⟩:=h;have nb:=e0.nb;have N1:=nb.N1;have N2:=nb.N2;have eN:=oR N;refine⟨_,(kh (kU 3 nd (mF kS)) (kh (kU 4 nd (kW (rO T) hr (ki (pv 3) (ki (pv 0) (ki (pv 1) (ki (pv 2) kS)))))) (kh (nW aJ (mC nR (k7 kT (pv 4) ks) mR) (kh (kU 5 nd (kW (oQ T) hr (kZ (pv 0) (pv 4)))) (kh (mh (mC Aw (pv 5) sA) (ky (kM (pv 4))) k9) (kh (oy (vy cV cQ cR oF (pv 3) (lJ (mE (kZ (pv 5) (wC (pv 1) T.cl_Frame (r6 T) (hr.mono O) (lJ (k7 lP (pv 0) (pv 5))))))))) (ky (kU 4 nd (kW (rO T) hr (ki (pv 3) (ki (pv 0) (ki (pv 1) (ki (pv 2) kS))))))))))) (ky (kM (pv 4)))))),?_⟩;refine⟨n5 O,fun ziT hO=>?_⟩;have LP:kD H (upd H ziT (.lst [])):=ku (kD.refl _) hO;have Sv:upd H ziT (.lst []) ziT=some (.lst (([]:List Addr).map zac)):=ko;generalize upd H ziT (.lst [])=H0 at LP Sv ⊢;have szs:∀os:List Ot,(∀o∈os,o.1<é.length/\zbu é fs D N (zan é o.1) o.2.1 o.2.2)->(os.map (fun o=>o.1)++zag fs).Nodup->fs.length+os.length<=420:=fun os mo SD=>by
  have lt:∀n∈os.map (fun o=>o.1)++zag fs,n<é.length:=fun n hn=>by
   rcases List.mem_append.mp hn with c | c
   .obtain⟨o,ho,rfl⟩:=List.mem_map.mp c;exact(mo o ho).1
   .exact Rx.wB e0.fo.crn n c
  have ln:=Rx.HE SD lt;rw[aI,aa] at ln;have LO:(zag fs).length=fs.length:=by unfold zag;rw[List.length_map]
  have sz:=e0.sz;lia
 have S5:é.length<=20000:=by have:=e0.sz;lia
 have LS:=e0.same LP;have S7:(([]:List Ot).map (fun o=>o.1)++zag fs).Nodup:=by rw[iZ,iJ];exact e0.fo.crn.EG
 have mo0:∀o∈([]:List Ot),o.1<é.length/\zbu é fs D N (zan é o.1) o.2.1 o.2.2:=fun o ho=>(nomatch ho);refine⟨_,Z,_,Z,_,Z,_,Z,ziT,s',x,gm,gt,[],é,fs,us,ê,pM,gb,p,w',N,D,Cc,G,B,Z,⟨[],Sv,.nil⟩,LS.hS,LS.fa,LS.fo,LS.fm,LS.nb,LS.DG,LS.lw,LS.w4,LS.p3,S5,szs [] mo0 S7,LP _ _ SC,LP _ _ Uv,Uw,AU,mo0,S7,fun t0 H1 mQ td0=>?_⟩;refine⟨fun mm σ H'=>kD H H'/\∃(os:List Ot)(as:List Addr)(t:Addr)(o1:Option V),σ=[some (.ref s'),some (.ref x),some (.ref gm),some (.ref ziT),some (.ref t),o1]/\H' ziT=some (.lst (as.map zac))/\Paired (IS H') as os/\(∀o∈os,o.1<é.length/\zbu é fs D N (zan é o.1) o.2.1 o.2.2)/\(os.map (fun o=>o.1)++zag fs).Nodup/\Z8 w' N é fs os ê H' t/\mm=é.length-os.length,
  ⟨_,LP.trans mQ,[],[],t0,none,Z,mQ _ _ Sv,.nil,fun o ho=>(nomatch ho),by rw[iZ,iJ];exact e0.fo.crn.EG,td0,Z⟩,?_⟩
 rintro mm σ H' ⟨sm,os,as,t,o1,rfl,PL,pa,mo,SD,td,rfl⟩;rcases td with ⟨wt,W,s0,ht,Uy,sb⟩ | ⟨ct,mv,ht,hct,lc,bc,Zm⟩
 rotate_left
 .have i0:m9 [zap "way",zac ct] 0=some (.str "way"):=Z;refine⟨_,Z,t,_,_,_,Z,Z,lX.of ht,i0,Z,_,Z,nq kd ?_⟩;exact⟨_,Z,qw t ct H' mv sm ht hct lc bc Zm⟩
 have i0:m9 [zap "bar",zac wt,zaa s0] 0=some (.str "bar"):=Z;refine⟨_,Z,t,_,_,_,Z,Z,lX.of ht,i0,Z,_,Z,qM kd ⟨_,fun _ _ h=>h,?_⟩⟩;have Wb:Bd N W:=wO sb.sN sb.AM;have e1:=e0.same sm;have s1:=sb.s1;have w4:=e0.w4;refine⟨_,Z,_,Z,s',t,wt,_,é,W,s0,w',N,N,Z,e1.hS,ht,Uy,sb.len,e0.lw,Wb,J,J,J,J,fun n H2 mX hn ndv=>?_,fun H2 mX al=>?_⟩
 .-- one more
  refine⟨_,Z,Z,_,Z,nq ke ?_⟩;have e2:=e1.same mX;obtain⟨sas,Sy,hs2⟩:=e2.hS;obtain⟨dx,ff,ch,co,ro,un,hx,_⟩:=e2.fa.ex;obtain⟨a,LL,ha⟩:=wJ hs2 (zbz hn);have ll:=e0.lw _ (zbm (è:=é) hn);have gst:∀c:Nat,zai (é.getD n []) c=zan é n c:=fun c=>by unfold zan;rw[Int.toNat_natCast]
  refine⟨_,Z,.inl ⟨Z,_,kR.of (mX _ _ PL)⟩,_,Z,_,Z,x,dx,_,Z,hx,zg _ _ _ _ _ _ _ _,_,Z,_,Z,s',_,_,_,Z,Z,kR.of Sy,LL,x,a,é,fs,us,é.getD n [],p,w',N,D,Cc,G,B,Z,e2.fa,e2.fo,e2.fm,e2.nb,e2.lw,w4,e0.p3,ha,ll.1,fun c hc=>?_,fun tm tt H3 á b mJ htm qk lt b1 bD bN bt sol=>?_⟩
  .rw[gst];exact bQ (e0.fm.bd n c hn hc) e0.CG
  have mad:zbu é fs D N (zan é n) á b:=⟨lt,b1,bD,bN,bt,fun i hi=>by rw[<-gst];exact sol i hi⟩;refine⟨kq,fun tn htn=>?_⟩;have Zo:=ku (o:=.tup [.int (n:Nat),.ref tm]) (kD.refl H3) htn;have DW:=(mX.trans mJ).trans Zo;have OS:=DW _ _ PL;have lno:n∉os.map (fun o=>o.1)++zag fs:=fun hm=>by
   rcases List.mem_append.mp hm with c | c
   .obtain⟨o,ho,e⟩:=List.mem_map.mp c;exact ndv (by have:=sb.ot o ho;rwa [e] at this)
   .unfold zag at c;obtain⟨f,hf,e⟩:=List.mem_map.mp c;obtain⟨j,hj,ej⟩:=List.getElem_of_mem hf;have:=sb.ch j hj;have en:zay fs j=n:=by unfold zay;rw[Rx.getD_at (List.getElem?_eq_getElem hj),ej,e]
    rw[en] at this;exact ndv this
  have nd2:((os++[((n:Nat),á,b)]).map (fun o=>o.1)++zag fs).Nodup:=by
   rw[aS,gN];have O1:=iy.mp SD;rw[iy];refine⟨O1.1,?_,fun a ha b hb=>?_⟩
   .show (n::zag fs).Nodup
    rw[fj];exact⟨fun hm=>lno (aZ _ hm),O1.2.1⟩
   .rcases List.mem_cons.mp (show b∈n::zag fs from hb) with e | e
    .rw[e];exact fun z=>lno (cA _ (z▸ha))
    .exact O1.2.2 a ha b e
  have S9:∀o∈os++[((n:Nat),á,b)],o.1<é.length/\zbu é fs D N (zan é o.1) o.2.1 o.2.2:=fun o ho=>by
   rcases List.mem_append.mp ho with c | c
   .exact mo o c
   .rw[bF.mp c];exact⟨hn,mad⟩
  have lt2:∀m∈(os++[((n:Nat),á,b)]).map (fun o=>o.1)++zag fs,m<é.length:=fun m hm=>by
   rcases List.mem_append.mp hm with c | c
   .obtain⟨o,ho,rfl⟩:=List.mem_map.mp c;exact(S9 o ho).1
   .exact Rx.wB e0.fo.crn m c
  have ln:=Rx.HE nd2 lt2;rw[aI,aa,aI] at ln;have ln':os.length+1<=é.length:=by have:os.length + [((n:Nat),á,b)].length+(zag fs).length<=é.length:=ln;rw[dJ] at this;lia
  have sz:=e0.sz;have k0:=sb.k0;have nonil:∀o∈os++[((n:Nat),á,b)],o.2.1≠[]:=fun o ho z=>by
   have:=(S9 o ho).2.len;rw[z] at this;simp at this;lia
  refine⟨ziT,_,_,Z,Z,OS,by rw[aa,kQ pa];exact nQ J,?_⟩;have push:=Kq (o:=((n:Nat),á,b)) OS (A4 DW pa) (fun o ho=>nonil o (cA _ ho)) ko (Zo _ _ htm) (Zo _ _ qk) (nonil _ (aZ _ av));have Gr:kD H (upd (upd H3 tn (.tup [.int (n:Nat),.ref tm])) ziT (.lst (as.map zac++[.ref tn]))):=lI (sm.trans DW) hO;generalize upd (upd H3 tn (.tup [.int (n:Nat),.ref tm])) ziT (.lst (as.map zac++[.ref tn]))=H5 at push Gr ⊢;have e5:=e0.same Gr;refine⟨_,Z,_,Z,_,Z,_,Z,ziT,s',x,gm,gt,_,é,fs,us,ê,pM,gb,p,w',N,D,Cc,G,B,Z,push,e5.hS,e5.fa,e5.fo,e5.fm,e5.nb,e5.DG,e5.lw,e5.w4,e5.p3,S5,szs _ S9 nd2,Gr _ _ SC,Gr _ _ Uv,Uw,AU,S9,nd2,fun t2 H6 rh td6=>?_⟩;obtain⟨as2,p1,p2⟩:=push.same rh;exact⟨é.length-(os.length+1),J,Gr.trans rh,_,as2,t2,_,Z,p1,p2,S9,nd2,td6,by rw[aI];rfl⟩
 .refine⟨_,Z,Z,_,Z,qM ke ?_⟩;exact⟨_,Z,qb t wt H2 W s0 (sm.trans mX) (mX _ _ ht) (mX _ _ Uy) sb.len sb.s1 Wb ⟨al,sb.go⟩⟩
structure Nk (k C Cg N B G:Nat):Prop where
 a1:(2*(k*C)+1)^k<=B
 a2:(2*(k*C)+1)^k<=G
 a3:k*((2*(k*C)+1)^k*(zaw k C*G))<=B
 a4:1<=B
 a5:128*(B*B)*(128*(B*B))*2^480<=2^N
 a6:G<2^N
 a7:C<=G
 a8:Cg<=G
theorem MW {p:Int}(p0:0<=p)(JX:p<2^30):p^16<=2^480:=by
 have a:=ie (show p.toNat<=2^30 by lia) 16;have c:((p.toNat^16:Nat):Int)=p^16:=by rw[dW,show ((p.toNat:Nat):Int)=p by lia]
 have d:(2^30)^16=2^480:=by rw[<-Nat.pow_mul]
 rw[d] at a;have e:=oR 480;lia
theorem Rf {p:Int}{k D C Cg N B G:Nat}(p0:0<=p)(JX:p<2^30)(Db:D<=(2*(k*C)+1)^k)(h:Nk k C Cg N B G)(N1:480<=N)(N2:N<=9000):Nb p k D C G B N/\D<=G:=by
 refine⟨⟨bQ Db h.a1,bQ (eR _ (cJ _ Db)) h.a3,h.a4,?_,h.a6,N1,N2⟩,bQ Db h.a2⟩;have a:=MW p0 JX;have b:(0:Int)<=128*((B:Int)*B)*(128*((B:Int)*B)):=by
  have:(0:Int)<=(B:Int)*B:=bI J J;exact bI J J
 have c:=ay a b;have d:((128*(B*B)*(128*(B*B))*2^480:Nat):Int)=128*((B:Int)*B)*(128*((B:Int)*B))*2^480:=by
  simp only[Int.natCast_mul,Int.natCast_pow];rfl
 have e:=oR N;have f:=h.a5;lia
theorem ID {H:Hp}{as:List Addr}{è:List (List Int)}(pa:Paired (fun a (x:List Int)=>H a=some (.lst (x.map zaa))) as è):∀{ps:List Nat},(∀q∈ps,q<è.length)->∃bs:List Addr,pk (as.map zac) ps=bs.map zac/\Paired (fun a (x:List Int)=>H a=some (.lst (x.map zaa))) bs (ps.map fun q=>è.getD q [])
 | [],_=>⟨[],Z,.nil⟩
 | q::ps,h=>by
  obtain⟨bs,e,p⟩:=ID pa (ps:=ps) fun z hz=>h z (List.mem_cons_of_mem _ hz);have ql:=h q av;have la:=kQ pa;have ha:as[q]?=some (as[q]'J):=az J;obtain⟨row,hr,hh⟩:=mj pa ha;refine⟨as[q]'J::bs,?_,.cons (by dsimp only;rw[zbx hr];exact hh) p⟩;show (as.map zac).getD q .non::pk (as.map zac) ps=_
  rw[e,ao,af,ha];rfl
inductive Xj (C:Addr)(vs:List V)(H:Hp)(Q:VK)(_:XK):Prop
 | mk (s gl:Addr)(é:List (List Int))(ê:List Int)(p:Int)(w N Cc Cg:Nat)(_:vs=[.ref s,.ref gl,.int p])(_:mL H s é)(_:H gl=some (.lst (ê.map zaa)))(_:∀y∈é,y.length=w/\Bd N y)(_:ê.length=w)(_:w<=420)(_:é.length<=420)(_:zak p)(_:1000<=p)(_:p<2^30)(_:480<=N)(_:N<=9000)(_:1<=Cc)(_:∀j c:Nat,j<é.length->c<w->(zan é j c).natAbs<=Cc)(_:∀c,c<w->(zai ê c).natAbs<=Cg)(_:∀k,k<=é.length->k<=w->∃B G,Nk k Cc Cg N B G)(_:∀t wt H' W s,kD H H'->H' t=some (.tup [.str "bar",.ref wt,.int s])->H' wt=some (.lst (W.map zaa))->W.length=w->0<=s->Bd (N+1) W->(zco p w é.length (zan é) (zaf ê)->zcc é ê W s)->Q (.ref t) H')(_:∀t ct H' mv,kD H H'->H' t=some (.tup [.str "way",.ref ct])->H' ct=some (.lst (mv.map zaa))->mv.length=é.length->Bd 40000 mv->(zco p w é.length (zan é) (zaf ê)->zcm w é ê mv)->Q (.ref t) H')
theorem Fk (T:Txt K mg CF cN):Df P w K mg base 11 "sought" ["steps","goal","prime"] (Xj CF):=by
 refine mf T.d_sought FT fun f cdv A outer s H vs Q E hr nd h=>?_;obtain⟨s',gl,é,ê,p,w',N,Cc,Cg,rfl,hS,hg,lw,lg,w4,s4,hp,p3,JX,N1,N2,C1,bs,bg,num,qb,qw⟩:=h;have eN:=oR N;have lw1:∀y∈é,y.length=w':=fun y hy=>(lw y hy).1;refine⟨_,(kh (kU 3 nd (N0 (yw T) (hr.mono O) kf (ki (pv 0) (ki (oG T.b_len (pv 1)) (ki (pv 2) kS))))) (kh (kU 4 nd (wC (pv 3) T.cl_Frame (v9 T) (hr.mono O) (lJ (pv 1)))) (kh (mh (mC Aw (pv 4) sA) (ky (kM (kW (uS T) hr (ki (pv 0) (ki (pv 3) (ki (wC (pv 3) T.cl_Frame (r6 T) (hr.mono O) (lJ (pv 1))) kS)))))) k9) (kh (kU 5 nd (wC (pv 3) T.cl_Frame (qT T) (hr.mono O) (lJ (kW (uB T) hr (kZ (kW (va T) hr (kZ (pv 0) (nH (pv 3) Z))) (pv 4)))))) (kh (vV 6 [] ["number"] nd (lG (k7 kT (pv 5) ks)) (fun C s H fp=>⟨(oM 0),lC,(sG p7 (pv 0))⟩)) (kh (pY (k7 kT (pv 5) ks) (pZ (pv 6) (pv 4) set_list)) (ky (kM (mE (ki mR (ki (pv 6) (ki ks kS)))))))))))),?_⟩;refine⟨_,Z,_,Z,gl,_,Z,.inl (kR.of hg),_,Z,fun x dx nx ndx ne=>?_⟩;have rL:kD H (upd (upd H dx (.own x)) x (.ins CF dx [])):=fun b o e=>by
  rw[kO (kP e nx),kO (kP e ndx)];exact e
 refine⟨x,s',dx,é,p,w',N,(by rw[aa,lg];rfl),ko,hS.same rL,lw,w4,J,hp,JX,N1,N2,fun H1 fs us kx fa fo=>⟨Z,?_⟩⟩;have mQ:kD H H1:=fun b o e=>kx b o (rL b o e) (kP e nx);have kl:=fo.crn.fr.Fy hp;obtain⟨D,fm⟩:=Rx.yz.mk' hp fo.crn fo.ul (fun u hu=>(fo.uw u hu).1) fo.li C1 bs;obtain⟨B,G,nk⟩:=num fs.length kl.1 kl.2;obtain⟨nb,DG⟩:=Rf J JX fm.Db nk N1 N2;obtain⟨UE,ff,ch,co,ro,un,hx,hff,AQ,_⟩:=fa.ex;have hg1:=mQ _ _ hg;have e0:HQ CF H1 s' x p w' N D Cc G B é fs us:=⟨hS.same mQ,fa,fo,fm,nb,DG,nk.a7,lw,w4,p3,s4⟩;refine⟨_,Z,x,UE,_,Z,hx,FM _ _ _ _ _ _ _ _,_,Z,x,gl,é,fs,us,ê,p,w',N,Z,fa,fo,hp,JX,N1,N2,w4,hg1,lg,fun c H2 mX hc nz=>?_,fun H2 mX z=>?_⟩
 .refine⟨_,Z,Z,_,Z,nq ke ?_⟩;have ow:=mQ.trans mX;obtain⟨sas,Sy,hs2⟩:=hS.same ow;have OU:=kQ hs2;have UF:=mX _ _ hx;have nl:=Rx.wB fo.crn;have LO:(zag fs).length=fs.length:=by unfold zag;rw[List.length_map]
  refine⟨_,Z,x,UE,_,Z,UF,wM _ _ _ _ _ _ _ _,_,Z,_,Z,x,CF,UE,_,_,Z,UF,T.cl_Frame,T.na_chosen,zf _ _ _ _ _ _ _ _,s',ch,_,zag fs,Z,kR.of Sy,mX _ _ AQ,fun q hq=>by rw[aa,OU];exact nl q hq,J,fun t1 H3 mJ _ h3=>?_⟩;obtain⟨bs3,e3,Y5⟩:=ID (lZ mJ hs2) (ps:=zag fs) nl;rw[e3] at h3;have lpk:∀row∈(zag fs).map fun q=>é.getD q [],c<row.length:=fun row mI=>by
   obtain⟨q,hq,rfl⟩:=List.mem_map.mp mI;rw[(lw _ (zbm (è:=é) (nl q hq))).1];exact hc
  refine⟨_,Z,t1,(zag fs).map (fun q=>é.getD q []),c,Z,⟨bs3,h3,Y5⟩,lpk,by rw[aa];lia,fun t2 H4 nJ _ h4=>?_⟩;obtain⟨am,SO⟩:∃am:List Int,am=((zag fs).map fun q=>é.getD q []).map fun row=>zai row c:=⟨_,Z⟩;rw[<-SO] at h4;have lam:am.length=fs.length:=by rw[SO,aa,aa,LO]
  have T9:∀i,i<fs.length->zai am i=zai (é.getD (zay fs i) []) c:=fun i hi=>zbk (by rw[SO,af,af,Rx.ER hi];rfl);have Tc:=(mX.trans mJ).trans nJ;have Zc:∀i,i<fs.length->(zai am i).natAbs<=G:=fun i hi=>by
   rw[T9 i hi];have:=bs (zay fs i) c (fo.crn.sW hi) hc;unfold zan at this;rw[ae] at this;exact bQ this nk.a7
  have e4:=e0.same Tc;refine⟨x,t2,é,fs,us,am,p,w',N,D,Cc,G,B,Z,e4.fa,fo,fm,nb,lw,w4,p3,h4,lam,Zc,fun tt W0 H5 á b ol qk hW0 _ lt b1 bD bN bt sol=>?_⟩;have i0:m9 [zac W0,zaa b] 0=some (.ref W0):=Z;have i1:m9 [zac W0,zaa b] 1=some (.int b):=Z;refine⟨_,Z,tt,_,_,_,Z,Z,lX.of qk,i0,W0,Z,⟨_,kR.of hW0⟩,?_⟩;refine mP (K:=K) (xs:=(zbi w' (zaq fs) á).map zaa) ((zbi w' (zaq fs) á).map fun y=>-y) ziY zja (kR.of hW0) ?_ ?_
  .intro i y H6 hy rh R kk;obtain⟨u,rfl,hu⟩:=int_at hy;exact⟨_,Z,_,Z,kk _ _ (kD.refl _) (by rw[af,hu];rfl)⟩
  intro wa H6 rh nwa hwa;refine⟨_,Z,tt,_,_,_,Z,Z,lX.of (rh _ _ qk),i1,_,Z,_,Z,wa,_,_,_,Z,Z,hwa,qH J (by rw[aa,aa,Rx.o6];lia),?_⟩;rw[ae,set_int];have Cm:=((mQ.trans Tc).trans ol);have Gr:kD H (upd H6 wa (.lst ((((zbi w' (zaq fs) á).map fun y=>-y).set c b).map zaa))):=lI (Cm.trans rh) (Cm.free nwa);have hU:upd H6 wa (.lst ((((zbi w' (zaq fs) á).map fun y=>-y).set c b).map zaa)) wa=some (.lst ((((zbi w' (zaq fs) á).map fun y=>-y).set c b).map zaa)):=ko;generalize upd H6 wa (.lst ((((zbi w' (zaq fs) á).map fun y=>-y).set c b).map zaa))=H7 at Gr hU ⊢;refine⟨_,Z,kY,fun tr Ui=>?_⟩;refine qb tr wa _ _ 0 (ku Gr Ui) ko (ku (kD.refl _) Ui _ _ hU) (by rw[cq,aa,Rx.o6]) (dj 0) (fun y hy=>?_) fun gd=>?_
  .rw[dQ];rcases List.mem_or_eq_of_mem_set hy with z | z
   .obtain⟨u,hu,rfl⟩:=List.mem_map.mp z;rw[hZ];rcases Rx.EF hu with e | e
    .rw[e];have:=fI (n:=N) (show 0<2 by decide);show 0<_;lia
    .have:=bt u e;lia
   .rw[z];lia
  .exact Rx.HX hp fo.crn fm.ZZ lw1 lg lt hc nz b1 T9 sol gd
 .refine⟨_,Z,Z,_,Z,qM ke ?_⟩;have UF:=mX _ _ hx;have e2:=e0.same mX;have ow:=mQ.trans mX;have hm:Mx.Hm p w' (zan é) fs.length (zay fs) (zaf ê):=fo.crn.hm J lg z;refine⟨_,Z,_,Z,_,Z,x,UE,_,Z,UF,zg _ _ _ _ _ _ _ _,_,Z,x,gl,é,fs,us,ê,p,w',N,D,Cc,G,B,Z,e2.fa,fo,fm,nb,lw,w4,p3,mX _ _ hg1,lg,fun c hc=>bQ (bg c hc) nk.a8,fun t tt H3 á b mJ ht qk lt b1 bD bN bt sol=>?_⟩;have e3:=e2.same mJ;refine⟨s',x,t,tt,é,fs,us,ê,á,b,p,w',N,D,Cc,G,B,Z,e3,ht,qk,lg,⟨lt,b1,bD,bN,bt,fun i hi=>by rw[sol i hi];unfold zaf;rw[Int.toNat_natCast]⟩,fun t wt H4 W s nJ h1 h2 lW s1 bW sh=>?_,fun t ct H4 mv nJ h1 h2 lc bc Zm=>?_⟩
  .exact qb t wt H4 W s ((ow.trans mJ).trans nJ) h1 h2 lW J (rC bW J) fun _=>sh
  .exact qw t ct H4 mv ((ow.trans mJ).trans nJ) h1 h2 lc bc fun gd=>Rx.FS hp fo.crn gd hm Zm
def QS (w:Nat)(é:List (List Int))(ê:List Int)(H:Hp)(t:Addr)(Q:VK):Prop :=
 (∃wt W s N,H t=some (.tup [.str "bar",.ref wt,.int s])/\H wt=some (.lst (W.map zaa))/\W.length=w/\0<=s/\Bd N W/\N<=1000000/\(∀H',kD H H'->zcc é ê W s->Q (.bl true) H')/\∀H',kD H H'->¬zcc é ê W s->Q (.bl false) H') \/
 ∃ct mv,H t=some (.tup [.str "way",.ref ct])/\H ct=some (.lst (mv.map zaa))/\mv.length=é.length/\Bd 40000 mv/\(∀H',kD H H'->zcm w é ê mv->Q (.bl true) H')/\∀H',kD H H'->¬zcm w é ê mv->Q (.bl false) H'
inductive Xl (K:zdg)(vs:List V)(H:Hp)(Q:VK)(_:XK):Prop
 | mk (s gl t:Addr)(é:List (List Int))(ê:List Int)(w N:Nat)(_:vs=[.ref s,.ref gl,.ref t])(_:mL H s é)(_:H gl=some (.lst (ê.map zaa)))(_:∀y∈é,y.length=w/\Bd N y)(_:ê.length=w)(_:Bd N ê)(_:w<=420)(_:é.length<=420)(_:N<=1000000)(_:QS w é ê H t Q)
theorem BD (T:Txt K mg CF cN):Df P w K mg base 4 "is_shown" ["steps","goal","told"] (Xl K):=by
 refine mf T.d_is_shown Be fun f cdv A outer s H vs Q E hr nd h=>?_;obtain⟨s',gl,t,é,ê,w',N,rfl,hS,hg,lw,lg,bg,w4,s4,N1,tl⟩:=h;refine⟨_,(kh (mh (mC nR (k7 kT (pv 2) ks) mR) (ky (kM (nX (C5 (Hs hr)) (kW (yZ T) hr (ki (pv 0) (ki (k7 kT (pv 2) ks) (ki (oG T.b_len (pv 1)) kS)))) (pv 1) (oO _)))) k9) (ky (kM (Ds (nX Aw (kW (oQ T) hr (kZ (pv 0) (pv 2))) sA (oO _)) (wE (nX nR (kW (oQ T) hr (kZ (mF (lJ (pv 1))) (pv 2))) ks (oO _))))))),?_⟩;rcases tl with ⟨wt,W,s0,M,ht,hw,lW,s1,bW,M1,qt,qf⟩ | ⟨ct,mv,ht,hc,lc,bc,qt,qf⟩
 .have i0:m9 [zap "bar",zac wt,zaa s0] 0=some (.str "bar"):=Z;refine⟨_,Z,t,_,_,_,Z,Z,lX.of ht,i0,Z,_,Z,nq kd ?_⟩;have fin:∀H1:Hp,kD H H1->(∀j,j<é.length->s0∣zao (é.getD j []) W)->iG:=fun _ _ _=>trivial;refine⟨_,Z,_,Z,s',t,wt,_,é,W,s0,w',N,M,Z,hS,ht,hw,lW,lw,bW,J,N1,M1,s1,fun n H1 mQ hn ndv=>?_,fun H1 mQ al=>?_⟩
  .refine⟨Z,_,Z,nq ke ?_⟩;exact qf H1 mQ fun sh=>ndv (sh.1 n hn)
  .refine⟨Z,_,Z,qM ke ?_⟩;refine⟨_,Z,kC,fun l1 E8=>?_⟩;have mX:=ku (o:=.lst [zac gl]) (kD.refl H1) E8;have ow:=mQ.trans mX;have hl:upd H1 l1 (.lst [zac gl]) l1=some (.lst ([gl].map zac)):=ko;generalize upd H1 l1 (.lst [zac gl])=H2 at mX ow hl ⊢;refine⟨_,Z,l1,t,wt,_,[ê],W,s0,w',N,M,Z,⟨[gl],hl,.cons (ow _ _ hg) .nil⟩,ow _ _ ht,ow _ _ hw,lW,fun y hy=>by rw[bF.mp hy];exact⟨lg,bg⟩,bW,J,N1,M1,s1,fun n H3 mJ hn ndv=>?_,fun H3 mJ al2=>?_⟩
   .have n0:n=0:=by rw[dJ] at hn;lia
    subst n0;refine⟨Z,?_⟩;exact qt H3 (ow.trans mJ) ⟨al,ndv⟩
   .refine⟨Z,?_⟩;exact qf H3 (ow.trans mJ) fun sh=>sh.2 (al2 0 (by rw[dJ];exact Nat.one_pos))
 .have i0:m9 [zap "way",zac ct] 0=some (.str "way"):=Z;have i1:m9 [zap "way",zac ct] 1=some (.ref ct):=Z;refine⟨_,Z,t,_,_,_,Z,Z,lX.of ht,i0,Z,_,Z,qM kd ?_⟩;refine⟨_,Z,_,Z,t,_,_,_,Z,Z,lX.of ht,i1,_,Z,gl,_,Z,.inl (kR.of hg),s',ct,é,mv,w',é.length,N,40000,(by rw[aa,lg];rfl),hS,hc,Z,lc,lw,bc,J,J,N1,O,fun o H1 out mQ ho lo eqs=>?_⟩;refine⟨_,Z,IX (kR.of ho) (kR.of (mQ _ _ hg)) ?_⟩
  by_cases e:out=ê
  .rw[b5 e];exact qt H1 mQ fun c hc=>by rw[<-eqs c hc,e]
  .rw[dU e];exact qf H1 mQ fun sh=>e (Rx.P1 (by rw[lo,lg]) fun c hc=>by rw[eqs c J];exact sh c J)
theorem Jf {a b:Int}(h1:-1000000000000<=a)(h2:a<=1000000000000):IntMulOk a b:=Bq h1 h2
inductive Rb (vs:List V)(H:Hp)(Q:VK)(_:XK):Prop
 | mk (n p:Int)(_:vs=[.int n,.int p])(_:1<=n)(_:n<=1000010000)(_:2<=p)(_:p<=31625)(_:∀q,Pt.CO n p q->Q (.int q) H)
inductive HS (vs:List V)(H:Hp)(Q:VK)(_:XK):Prop
 | mk (n:Int)(_:vs=[.int n])(_:1<=n)(_:n<=1000010000)(_:∀r H' ps,kD H H'->H r=none->Hz H' r ps->zav n ps->Q (.ref r) H')
theorem vX (T:Txt K mg CF cN):Df P w K mg base 1 "prime_power" ["n","p"] Rb:=by
 refine mf T.d_prime_power wK fun f cdv A outer s H vs Q E hr nd h=>?_;obtain⟨n,p,rfl,n1,n2,p1,p2,q⟩:=h;refine⟨_,(kh (kU 2 nd ks) (kh (nW aJ (mC nR (kK lO (pv 0) (kK lL (pv 2) (pv 1))) ks) (ky (kU 2 nd (kK lL (pv 2) (pv 1))))) (ky (kM (pv 2))))),?_⟩;refine⟨fun m σ H'=>H'=H/\∃q,σ=[some (.int n),some (.int p),some (.int q)]/\Pt.Ae n p q/\m=(n-q).toNat,⟨_,Z,1,Z,Pt.q0 n p,Z⟩,?_⟩;rintro m σ H' ⟨rfl,z,rfl,hz,rfl⟩;have z1:=hz.pos;have z2:=Pt.Kv n1 hz;have zp:=Pt.Ic p1 z1;refine⟨_,Z,_,Z,_,Z,_,_,Z,Z,Jf J J,_,_,Z,Z,(show 0<z*p by lia),Z,_,Z,?_⟩;refine nw (fun c=>?_) (fun c=>?_)
 .have hq:=Pt.q1 p1 hz (vm c);have hl:=Pt.Kv n1 hq;refine⟨_,fun _ _ h=>h,?_⟩;refine⟨_,Z,_,Z,_,_,Z,Z,Jf J J,?_⟩;exact⟨(n-z*p).toNat,J,Z,_,Z,hq,Z⟩
 .exact⟨_,Z,q z (Pt.q2 hz (vC c))⟩
theorem sO (T:Txt K mg CF cN):Df P w K mg base 2 "parts" ["n"] HS:=by
 refine mf T.d_parts Ik fun f cdv A outer s H vs Q E hr nd h=>?_;obtain⟨n,rfl,n1,n2,q⟩:=h;refine⟨_,(kh (kU 1 nd (mF kS)) (kh (kU 2 nd (pv 0)) (kh (kU 3 nd ks) (kh (nW aJ (mC EJ (kK lL (pv 3) (pv 3)) (pv 2)) (kh (kU 4 nd (kW (vX T) hr (kZ (pv 2) (pv 3)))) (kh (mh (mC tI (pv 4) ks) (kh (oy (vy cV cQ cR oF (pv 1) (lJ (mE (kZ (pv 3) (pv 4)))))) (ky (kU 2 nd (kK lE (pv 2) (pv 4))))) k9) (ky (kU 3 nd (kK lU (pv 3) ks)))))) (kh (mh (mC tI (pv 2) ks) (ky (oy (vy cV cQ cR oF (pv 1) (lJ (mE (kZ (pv 2) (pv 2))))))) k9) (ky (kM (pv 1)))))))),?_⟩;refine⟨cX _,fun r yF=>?_⟩;refine⟨_,Z,?_⟩;refine⟨fun m σ H'=>kD H H'/\∃(as:List Addr)(ps:List (Int×Int))(left p:Int)(qv:Option V),σ=[some (.int n),some (.ref r),some (.int left),some (.int p),qv] /\
   H' r=some (.lst (as.map zac))/\Paired (fun a (x:Int×Int)=>H' a=some (.tup [.int x.1,.int x.2])) as ps/\Pt.yC n ps left p/\1<=left/\left<=1000010000/\2<=p/\p<=31625/\(ps.length:Int)+2<=p/\m=(40000-p).toNat,
  ⟨_,lI (kD.refl H) yF,[],[],n,2,none,Z,ko,.nil,Pt.start n,n1,n2,J,J,ke,Z⟩,?_⟩
 rintro m σ H' ⟨sm,as,ps,left,p,qv,rfl,hl,pr,inv,l1,l2,p1,p2,ì,rfl⟩;have al:=fJ pr;refine⟨_,Z,_,Z,_,_,Z,Z,Jf J J,_,Z,_,_,Z,Z,_,Z,?_⟩;refine nw (fun c=>?_) (fun c=>?_)
 .have hd:=dec c;have a:p<=31624:=by
   rcases Int.lt_or_le 31624 p with y | y
   .have:=cL (show 31625<=p by lia) (show 31625<=p by lia) O J;lia
   .exact y
  refine⟨_,fun _ _ h=>h,?_⟩;refine⟨_,Z,_,Z,left,p,Z,l1,l2,p1,J,fun z hz=>?_⟩;refine⟨_,Z,_,_,Z,Z,_,Z,?_⟩;refine nw (fun c=>?_) (fun c=>?_)
  .have z1:=dec c;have zl:=Pt.Kv l1 hz.inv;have lp:=Pt.Bx l1 hz.inv.dv hz.inv.pos;refine⟨_,Z,.inl ⟨Z,_,kR.of hl⟩,_,Z,_,Z,kq,fun t ht=>?_⟩;have rt:r≠t:=kP hl ht;refine⟨r,_,_,Z,Z,(kO rt).trans hl,by rw[aa];exact cf (show as.length<=40000 by lia) O,?_⟩;refine⟨_,Z,_,Z,_,_,Z,Z,t7 J (show z.natAbs<2^40 by lia) O,?_⟩;refine⟨_,Z,_,_,Z,Z,?_⟩;refine⟨(40000-(p+1)).toNat,J,lI (lI sm (sm.free ht)) yF,as++[t],ps++[(p,z)],left/z,p+1,some (.int z),Z,?_,?_,Pt.IL p1 inv hz z1,lp.1,J,J,J,by rw[aI,dJ];lia,Z⟩
   .rw[ko,aS];rfl
   .refine iV (Paired.yp pr fun a x e=>?_) ?_
    .rw[kO (oB e hl (fun z=>by cases z)),kO (kP e ht)];exact e
    .rw[kO (cM rt)];exact ko
  .refine⟨_,Z,_,_,Z,Z,?_⟩;exact⟨(40000-(p+1)).toNat,J,sm,as,ps,left,p+1,some (.int z),Z,hl,pr,Pt.GU inv hz (uR c),l1,l2,J,J,J,Z⟩
 .have hd:=uR c;refine⟨_,Z,_,_,Z,Z,_,Z,?_⟩;refine nw (fun c=>?_) (fun c=>?_)
  .have z1:=dec c;refine⟨_,Z,.inl ⟨Z,_,kR.of hl⟩,_,Z,_,Z,kq,fun t ht=>?_⟩;have rt:r≠t:=kP hl ht;refine⟨r,_,_,Z,Z,(kO rt).trans hl,by rw[aa];exact cf (show as.length<=40000 by lia) O,?_⟩;refine⟨_,Z,?_⟩;refine q r _ (ps++[(left,left)]) (lI (lI sm (sm.free ht)) yF) yF ⟨as++[t],?_,?_⟩ (Pt.Q6 p1 inv hd z1)
   .rw[ko,aS];rfl
   .refine iV (Paired.yp pr fun a x e=>?_) ?_
    .rw[kO (oB e hl (fun z=>by cases z)),kO (kP e ht)];exact e
    .rw[kO (cM rt)];exact ko
  .exact⟨_,Z,q r H' ps sm yF ⟨as,hl,pr⟩ (Pt.NT inv l1 (uR c))⟩
inductive VN (vs:List V)(H:Hp)(Q:VK)(_:XK):Prop
 | mk (n P0:Int)(_:vs=[.int n])(_:1<=n)(_:n<P0)(_:P0<=1000010000)(_:zak P0)(_:∀(q:Int) H',kD H H'->zak q->n<q->q<=P0->Q (.int q) H')
theorem yr (T:Txt K mg CF cN):Df P w K mg base 3 "next_prime" ["number"] VN:=by
 refine mf T.d_next_prime yt fun f cdv A outer s H vs Q E hr nd h=>?_;obtain⟨n,P0,rfl,n1,nP,Pz,hP,q⟩:=h;refine⟨_,(kh (kU 1 nd (kK lU (pv 0) ks)) (kh (nW aJ (mC (Jn (Hs hr)) (kW (sO T) hr (lJ (pv 1))) (mF (lJ (mE (kZ (pv 1) (pv 1)))))) (ky (kU 1 nd (kK lU (pv 1) ks)))) (ky (kM (pv 1))))),?_⟩;refine⟨_,Z,_,_,Z,Z,?_⟩;refine⟨fun m σ H'=>kD H H'/\∃f:Int,σ=[some (.int n),some (.int f)]/\n<f/\f<=P0/\m=(P0-f).toNat,⟨_,kD.refl _,n+1,Z,J,J,Z⟩,?_⟩;rintro m σ H' ⟨sm,f,rfl,nf,fP,rfl⟩;refine⟨_,Z,f,Z,J,J,fun r H1 ps mQ _ pr pt=>?_⟩;refine⟨_,Z,_,Z,kq,fun t ht=>⟨kC,fun l hl=>?_⟩⟩;have Td:=ku (o:=.tup [zaa f,zaa f]) (kD.refl H1) ht;have sml:=ku (o:=.lst [zac t]) Td hl;have pl:Hz (upd (upd H1 t (.tup [zaa f,zaa f])) l (.lst [zac t])) l [(f,f)]:=⟨[t],ko,.cons (ku (kD.refl _) hl _ _ ko) .nil⟩;have pr':Hz (upd (upd H1 t (.tup [zaa f,zaa f])) l (.lst [zac t])) r ps:=by
  obtain⟨as,e1,e2⟩:=pr;exact⟨as,sml _ _ e1,oz e2 fun _ _ z=>sml _ _ z⟩
 refine KL pr' pl ⟨_,Z,nw (fun c=>?_) (fun c=>?_)⟩
 .have ne:ps≠[(f,f)]:=fun z=>by rw[b5 z] at c;cases c
  have lt:f≠P0:=fun z=>ne (by rw[z];exact Rx.Fl (z▸pt) hP);refine⟨_,fun _ _ h=>h,?_⟩;refine⟨_,Z,_,_,Z,Z,?_⟩;exact⟨(P0-(f+1)).toNat,J,(sm.trans mQ).trans sml,f+1,Z,J,J,Z⟩
 .have e:ps=[(f,f)]:=by
   rcases Decidable.em (ps=[(f,f)]) with z | z
   .exact z
   .rw[dU z] at c;exact absurd Z c
  exact⟨_,Z,q f _ ((sm.trans mQ).trans sml) (Rx.Fw pt e) nf fP⟩
inductive Wy (C:Addr)(vs:List V)(H:Hp)(Q:VK)(_:XK):Prop
 | mk (s gl:Addr)(é:List (List Int))(ê:List Int)(w N Cc Cg:Nat)(_:vs=[.ref s,.ref gl])(_:mL H s é)(_:H gl=some (.lst (ê.map zaa)))(_:∀y∈é,y.length=w)(_:ê.length=w)(_:w<=420)(_:é.length<=420)(_:480<=N)(_:N<=9000)(_:1<=Cc)(_:Cc<=Cg)(_:Cg<2^N)(_:∀y∈é,∀z∈y,z.natAbs<=Cc)(_:∀z∈ê,z.natAbs<=Cg)(_:∀k,k<=é.length->k<=w->∃B G,Nk k Cc Cg N B G)(_:∀k,k<=é.length->k<=w->(2*(k*Cc)+1)^k*((k+1)*(zaw k Cg*Cg))<zcu Pq.S)(_:∀t wt H' W s,kD H H'->H' t=some (.tup [.str "bar",.ref wt,.int s])->H' wt=some (.lst (W.map zaa))->W.length=w->0<=s->Bd (N+1) W->zcc é ê W s->Q (.ref t) H')(_:∀t ct H' mv,kD H H'->H' t=some (.tup [.str "way",.ref ct])->H' ct=some (.lst (mv.map zaa))->mv.length=é.length->Bd 40000 mv->zcm w é ê mv->Q (.ref t) H')
def ZQ (w N:Nat)(é:List (List Int))(ê:List Int)(p:Int)(H1:Hp)(t:Addr):Prop:=(∃wt W s,H1 t=some (.tup [.str "bar",.ref wt,.int s])/\H1 wt=some (.lst (W.map zaa))/\W.length=w/\0<=s/\Bd (N+1) W/\(zco p w é.length (zan é) (zaf ê)->zcc é ê W s))\/∃ct mv,H1 t=some (.tup [.str "way",.ref ct])/\H1 ct=some (.lst (mv.map zaa))/\mv.length=é.length/\Bd 40000 mv/\(zco p w é.length (zan é) (zaf ê)->zcm w é ê mv)
inductive RD (C:Addr)(vs:List V)(H:Hp)(Q:VK)(_:XK):Prop
 | mk (s gl:Addr)(é:List (List Int))(ê:List Int)(p:Int)(w N Cc Cg:Nat)(_:vs=[.ref s,.ref gl,.int p])(_:mL H s é)(_:H gl=some (.lst (ê.map zaa)))(_:∀y∈é,y.length=w/\Bd N y)(_:ê.length=w)(_:w<=420)(_:é.length<=420)(_:zak p)(_:1000<=p)(_:p<2^30)(_:480<=N)(_:N<=9000)(_:1<=Cc)(_:∀j c:Nat,j<é.length->c<w->(zan é j c).natAbs<=Cc)(_:∀c,c<w->(zai ê c).natAbs<=Cg)(_:∀k,k<=é.length->k<=w->∃B G,Nk k Cc Cg N B G)(_:∀t H',kD H H'->ZQ w N é ê p H' t->Q (.ref t) H')
theorem w9 (T:Txt K mg CF cN):Df P w K mg base 11 "sought" ["steps","goal","prime"] (RD CF):=by
 obtain⟨f,fd,F,rr⟩:=(Fk (P:=P) (w:=w) (base:=base) T).ex;refine⟨f,fd,F.imp fun vs H Q E h=>?_,rr⟩;obtain⟨s,gl,é,ê,p,w',N,Cc,Cg,e,a1,a2,a3,a4,a5,a6,a7,a8,a9,Rk,Qz,RA,QR,Q3,PZ,q⟩:=h;exact⟨s,gl,é,ê,p,w',N,Cc,Cg,e,a1,a2,a3,a4,a5,a6,a7,a8,a9,Rk,Qz,RA,QR,Q3,PZ,fun t wt H2 W s mX h1 h2 l z b sh=>q t H2 mX (.inl ⟨wt,W,s,h1,h2,l,z,b,sh⟩),fun t ct H2 mv mX h1 h2 l b sh=>q t H2 mX (.inr ⟨ct,mv,h1,h2,l,b,sh⟩)⟩
theorem HJ (T:Txt K mg CF cN):Df P w K mg base 12 "reach" ["steps","goal"] (Wy CF):=by
 refine mf T.d_reach Jp fun f cdv A outer s H vs Q E hr nd h=>?_;obtain⟨s',gl,é,ê,w',N,Cc,Cg,rfl,hS,hg,lw,lg,w4,s4,N1,N2,C1,CC,CN,bs,bg,num,big,qb,qw⟩:=h;have Zp:∀y∈é,y.length=w'/\Bd N y:=fun y hy=>⟨lw y hy,fun z hz=>by have:=bs y hy z hz;lia⟩;have gB:Bd N ê:=fun z hz=>by have:=bg z hz;lia
 have Zq:∀j c:Nat,j<é.length->c<w'->(zan é j c).natAbs<=Cc:=fun j c hj hc=>by
  unfold zan;rw[ae];have m:=zbm (è:=é) hj;exact bs _ m _ (zbd (by rw[lw _ m];exact hc))
 have Zr:∀c:Nat,c<w'->(zai ê c).natAbs<=Cg:=fun c hc=>bg _ (zbd J);obtain⟨P0,PS,good⟩:=Mx.Ku (S:=Pq.S) O (fun q hq=>(Pq.Gw hq).1) Pq.N5 (w:=w') (n:=é.length) (ã:=zan é) (ê:=zaf ê) C1 CC Zq (fun c hc=>by unfold zaf;rw[Int.toNat_natCast];exact Zr c hc) big;have hP:=Pq.Gw PS;have first:=Pq.Gw (p:=1000000007) O;have JG:zak 1000000007:=first.1;have JX:(1000010000:Int)<2^30:=O;refine⟨_,(kh (kU 2 nd (lY (v:=.int 1000000007) kf T.g_FIRST_PRIME ⟨_,Z⟩)) (kh (kU 3 nd (kW (w9 T) hr (ki (pv 0) (ki (pv 1) (ki (pv 2) kS))))) (kh (nW aJ (oW (oA (kW (BD T) hr (ki (pv 0) (ki (pv 1) (ki (pv 3) kS)))))) (kh (kU 2 nd (kW (yr T) hr (lJ (pv 2)))) (ky (kU 3 nd (kW (w9 T) hr (ki (pv 0) (ki (pv 1) (ki (pv 2) kS)))))))) (ky (kM (pv 3)))))),?_⟩;refine⟨_,Z,_,Z,_,Z,s',gl,é,ê,1000000007,w',N,Cc,Cg,Z,hS,hg,Zp,lg,w4,s4,JG,O,O,N1,N2,C1,Zq,Zr,num,fun t0 H1 mQ td=>?_⟩;refine⟨fun m σ H'=>kD H H'/\∃(p:Int)(t:Addr),σ=[some (.ref s'),some (.ref gl),some (.int p),some (.ref t)]/\zak p/\1000000007<=p/\p<=P0/\ZQ w' N é ê p H' t/\m=((P0:Int)-p).toNat,⟨_,mQ,1000000007,t0,Z,JG,dj _,J,td,Z⟩,?_⟩;rintro m σ H' ⟨sm,p,t,rfl,pp,p1,p2,td,rfl⟩;have next:∀H2:Hp,kD H' H2->¬zco p w' é.length (zan é) (zaf ê)->p<P0:=fun H2 _ ng=>by
  have:p≠P0:=fun z=>ng (by rw[z];exact good);lia
 have DU:∀Qq:VK,(∀H2,kD H' H2->p<P0->Qq (.bl false) H2)->(∀H2,kD H' H2->((∃wt W s,H' t=some (.tup [.str "bar",.ref wt,.int s])/\H' wt=some (.lst (W.map zaa))/\W.length=w'/\0<=s/\Bd (N+1) W/\zcc é ê W s)\/∃ct mv,H' t=some (.tup [.str "way",.ref ct])/\H' ct=some (.lst (mv.map zaa))/\mv.length=é.length/\Bd 40000 mv/\zcm w' é ê mv)->Qq (.bl true) H2)->QS w' é ê H' t Qq:=fun Qq F Y=>by
  rcases td with ⟨wt,W,s0,h1,h2,lW,s1,bW,sh⟩ | ⟨ct,mv,h1,h2,lc,bc,sh⟩
  .exact .inl ⟨wt,W,s0,N+1,h1,h2,lW,s1,bW,J,fun H2 s2 y=>Y H2 s2 (.inl ⟨wt,W,s0,h1,h2,lW,s1,bW,y⟩),fun H2 s2 y=>F H2 s2 (next H2 s2 fun gd=>y (sh gd))⟩
  .exact .inr ⟨ct,mv,h1,h2,lc,bc,fun H2 s2 y=>Y H2 s2 (.inr ⟨ct,mv,h1,h2,lc,bc,y⟩),fun H2 s2 y=>F H2 s2 (next H2 s2 fun gd=>y (sh gd))⟩
 refine⟨_,Z,_,Z,_,Z,s',gl,t,é,ê,w',N,Z,hS.same sm,sm _ _ hg,Zp,lg,gB,w4,s4,J,DU _ (fun H2 mX lt=>?_) (fun H2 mX y=>?_)⟩
 .refine⟨_,Z,qM O ⟨_,fun _ _ h=>h,?_⟩⟩;refine⟨_,Z,p,P0,Z,J,lt,J,hP.1,fun q H3 mJ hq lq ql=>?_⟩;have DW:=(sm.trans mX).trans mJ;refine⟨_,Z,_,Z,_,Z,s',gl,é,ê,q,w',N,Cc,Cg,Z,hS.same DW,DW _ _ hg,Zp,lg,w4,s4,hq,J,J,N1,N2,C1,Zq,Zr,num,fun t2 H4 nJ td4=>?_⟩;exact⟨((P0:Int)-q).toNat,J,DW.trans nJ,q,t2,Z,hq,J,J,td4,Z⟩
 .refine⟨_,Z,nq O ?_⟩;rcases y with ⟨wt,W,s0,h1,h2,lW,s1,bW,sh⟩ | ⟨ct,mv,h1,h2,lc,bc,sh⟩
  .exact⟨_,Z,qb t wt H2 W s0 (sm.trans mX) (mX _ _ h1) (mX _ _ h2) lW s1 bW sh⟩
  .exact⟨_,Z,qw t ct H2 mv (sm.trans mX) (mX _ _ h1) (mX _ _ h2) lc bc sh⟩
inductive NQ (vs:List V)(H:Hp)(Q:VK)(_:XK):Prop
 | mk (st n:Int)(_:vs=[.int st,.int n])(_:1<=n)(_:n<=10000)(_:zbq st n=1)(_:∀(u:Int) H',1<=u->u<=n->(st*u-1)%n=0->kD H H'->Q (.int u) H')
theorem xP (T:Txt K mg CF cN):Df P w K mg base 4 "back" ["step","n"] NQ:=by
 obtain⟨f,fd,F,rr⟩:=(Am (P:=P) (w:=w) (base:=base) T).ex;refine⟨f,fd,F.imp fun vs H Q E h=>?_,rr⟩;obtain⟨st,n,e,n1,n2,g,q⟩:=h;exact⟨st,n,14,e,n1,O,O,J,fun d d1 dn ds=>Rs.Oj g d1 ds dn,fun u H' u1 u2 hu sm=>q u H' u1 u2 (bS hu) sm⟩
inductive Lq (vs:List V)(H:Hp)(Q:VK)(_:XK):Prop
 | mk (n q ë:Int)(ps:List (Int×Int))(p:Int)(_:vs=[.int n,.int q,.int ë])(_:1<=n)(_:n<=420)(_:zav n ps)(_:(p,q)∈ps)(_:∀c H',Rs.Sh n q ë c->kD H H'->Q (.int c) H')
theorem BN (T:Txt K mg CF cN):Df P w K mg base 5 "share" ["n","q","hole"] Lq:=by
 refine mf T.d_share IV fun f cdv A outer s H vs Q E hr nd h=>?_;obtain⟨n,q,ë,ps,p,rfl,n1,n2,hp,mem,k⟩:=h;have q2:2<=q:=by obtain⟨_,_,_,_,z,_⟩:=zcs hp mem;exact z
 have qn:q<=n:=by have:=Pt.Dz ps hp.row _ mem;rw[hp.prd] at this;exact this
 refine⟨_,(ky (kM (kK lO (kK lL (pv 2) (kW (xP T) hr (kZ (kK lE (pv 0) (pv 1)) (pv 1)))) (pv 1)))),?_⟩;refine⟨_,Z,_,Z,_,Z,_,_,Z,Z,lR kg kg,_,Z,_,q,Z,kg,kg,Rs.Ai hp mem,fun u H1 u1 u2 hu mQ=>?_⟩;refine⟨_,_,Z,Z,IntMulOk.of_right (gF kg kg),_,Z,_,_,Z,Z,(show 0<q by omega),?_⟩;exact k _ _ (zcr kg hu) mQ
inductive Ia (vs:List V)(H:Hp)(Q:VK)(_:XK):Prop
 | mk (n:Nat)(_:vs=[.int n])(_:1<=n)(_:n<=420)(_:∀r H' ps,kD H H'->H r=none->H' r=some (.lst ((ps.map Prod.fst).map zaa))->zav n ps->Q (.ref r) H')
theorem tu (T:Txt K mg CF cN):Df P w K mg base 1 "_law_primes" ["n"] Ia:=by
 refine mf T.d_law_primes yD fun f cdv A outer s H vs Q E hr nd h=>?_;obtain⟨n,rfl,n1,n2,q⟩:=h;refine⟨_,(kh (kU 1 nd (mF kS)) (kh (kU 2 nd ks) (kh (nW aJ (mC tI (pv 0) ks) (kh (mh (mC nR (kK lO (pv 0) (pv 2)) ks) (ky (oy (vy cV cQ cR oF (pv 1) (lJ (pv 2))))) k9) (kh (nW aJ (mC nR (kK lO (pv 0) (pv 2)) ks) (ky (kU 0 nd (kK lE (pv 0) (pv 2))))) (ky (kU 2 nd (kK lU (pv 2) ks)))))) (ky (kM (pv 1)))))),?_⟩;refine⟨cX _,fun r yF=>?_⟩;refine⟨fun m σ H'=>kD H H'/\∃(left p:Int)(ps:List (Int×Int)),σ=[some (.int left),some (.ref r),some (.int p)]/\H' r=some (.lst ((ps.map Prod.fst).map zaa))/\Pt.yC n ps left p/\2<=p/\p<=n+2/\1<=left/\left<=n/\(ps.length:Int)<=p/\m=(n+2-p).toNat,
  ⟨_,lI (kD.refl H) yF,n,2,[],Z,ko,Pt.start n,kg,kg,kg,kg,ke,Z⟩,?_⟩
 rintro m σ H' ⟨sm,left,p,ps,rfl,JB,pi,p2,pn,l1,ln,pl,rfl⟩;refine⟨_,Z,_,_,Z,Z,_,Z,?_⟩;refine nw (fun c=>?_) (fun c=>?_)
 .have lg:=dec c;have ple:p<=left:=by
   rcases Int.lt_or_le left p with z | z
   .exact absurd (c7 left) (pi.N5 left kg z)
   .exact z
  refine⟨_,fun _ _ h=>h,?_⟩;refine⟨_,Z,_,Z,_,_,Z,Z,(show 0<p by omega),Z,_,Z,?_⟩;refine nw (fun d=>?_) (fun d=>?_)
  .have d0:=vm d;refine⟨_,Z,.inl ⟨Z,_,kR.of JB⟩,_,Z,r,_,_,Z,Z,JB,by rw[aa,aa];exact nQ kg,?_⟩;have JC:upd H' r (.lst ((ps.map Prod.fst).map zaa++[.int p])) r=some (.lst (((ps.map Prod.fst)++[p]).map zaa)):=by rw[ko,aS];rfl
   have mX:kD H (upd H' r (.lst ((ps.map Prod.fst).map zaa++[.int p]))):=lI sm yF;generalize upd H' r (.lst ((ps.map Prod.fst).map zaa++[.int p]))=H2 at JC mX ⊢;refine⟨fun m σ H3=>H3=H2/\∃(l2 z:Int),σ=[some (.int l2),some (.ref r),some (.int p)]/\Pt.Ae left p z/\l2*z=left/\1<=l2/\l2<=left/\m=l2.toNat,
    ⟨_,Z,left,1,Z,Pt.q0 left p,kg,l1,kg,Z⟩,?_⟩
   rintro m' σ H3 ⟨rfl,l2,z,rfl,qi,e,l21,l2l,rfl⟩;refine⟨_,Z,_,Z,_,_,Z,Z,(show 0<p by omega),Z,_,Z,?_⟩;refine nw (fun d2=>?_) (fun d2=>?_)
   .have d2':=vm d2;obtain⟨t,ht⟩:=Int.dvd_of_emod_eq_zero d2';have et:l2/p=t:=by rw[ht];exact aG _ kg
    have t1:1<=t:=by
     rcases Int.lt_or_le t 1 with y | y
     .have:=ay (show t<=0 by omega) (show 0<=p by omega);omega
     .exact y
    have tl:t<l2:=by have:=aq p2 (show 0<=t by omega);omega
    have dz:left%(z*p)=0:=bS ⟨t,by rw[<-e,ht,aC (p*t) z,aK]⟩;refine⟨_,fun _ _ h=>h,?_⟩;refine⟨_,Z,_,Z,_,_,Z,Z,lR kg kg,?_⟩;dsimp only;rw[et];exact⟨t.toNat,kg,Z,t,z*p,Z,Pt.q1 p2 qi dz,by rw[<-e,ht,aC z p,<-aK,aC t p],t1,kg,Z⟩
   .have nd2:=vC d2;have zp:=qi.pos;have qe:Pt.CO left p z:=Pt.q2 qi fun y=>nd2 (by
     obtain⟨t,ht⟩:=Int.dvd_of_emod_eq_zero y;rw[<-e,aC l2 z,aK] at ht;have:=aT (show z≠0 by omega) ht;rw[this];exact jz _ _)
    have z1:z > 1:=by
     rcases Int.lt_or_le 1 z with y | y
     .exact y
     .have:z=1:=kg;rw[this,b3] at e;exact absurd d0 (by rw[<-e];exact nd2)
    have lz:left/z=l2:=by rw[<-e];exact ig _ kg
    have pi2:=Pt.IL p2 pi qe z1;rw[lz] at pi2;refine⟨_,Z,_,_,Z,Z,?_⟩;refine⟨(n+2-(p+1)).toNat,kg,mX,l2,p+1,ps++[(p,z)],Z,?_,pi2,kg,kg,l21,kg,by simp;omega,Z⟩;rw[aS];exact JC
  .have S7:=vC d;have qe:Pt.CO left p 1:=Pt.q2 (Pt.q0 left p) (by rw[cY];exact S7);refine⟨fun m σ H3=>H3=H'/\σ=[some (.int left),some (.ref r),some (.int p)]/\m=0,⟨0,Z,Z,Z⟩,?_⟩;rintro m' σ H3 ⟨rfl,rfl,rfl⟩;refine⟨_,Z,_,Z,_,_,Z,Z,(show 0<p by omega),Z,_,Z,nw (fun c=>absurd (vm c) S7) (fun _=>?_)⟩;refine⟨_,Z,_,_,Z,Z,?_⟩;exact⟨(n+2-(p+1)).toNat,kg,sm,left,p+1,ps,Z,JB,Pt.GU pi qe kg,kg,kg,l1,ln,kg,Z⟩
 .have:=uR c;exact⟨_,Z,q r H' ps sm yF JB (Pt.NT pi l1 kg)⟩
inductive QU (vs:List V)(H:Hp)(Q:VK)(_:XK):Prop
 | mk (r:Addr)(a:List Int)(n:Nat)(p ë à:Int)(_:vs=[.ref r,.int p,.int ë,.int à])(_:H r=some (.lst (a.map zaa)))(_:a.length=n)(_:1<=n)(_:n<=420)(_:2<=p)(_:p∣(n:Int))(_:∀H' b,(∀c o,c≠r->H c=some o->H' c=some o)->H' r=some (.lst (b.map zaa))->b.length=n->(∀x,zae b x=zae a x+zbc n (p,ë,à) x)->Q .non H')
inductive Xf (vs:List V)(H:Hp)(Q:VK)(_:XK):Prop
 | mk (n:Nat)(p ë:Int)(st:Nat)(_:vs=[.int n,.int p,.int ë])(_:1<=n)(_:n<=420)(_:2<=p)(_:p.toNat<=n)(_:(n:Int)/p=st)(_:0<st)(_:n=p.toNat*st)(_:∀t,H t=none->Q (.ref t) (upd H t (.lst ((Cd (ë%st) st p.toNat).map zaa))))
theorem yg (T:Txt K mg CF cN):Df P w K mg base 1 "ring_holes" ["n","p","hole"] Xf:=by
 refine mf T.d_ring_holes yy fun f cdv A outer s H vs Q E hr nd h=>?_;obtain⟨n,p,ë,st,rfl,n1,n2,p2,pn,Cp,E9,JH,q⟩:=h;have stn:(st:Int)<=n:=by rw[<-Cp];exact b8 _ J
 have lo0:=aE ë (show (st:Int)≠0 by lia);have lo1:=aA ë (show (0:Int)<st by lia);refine⟨_,(kh (kU 3 nd (kK lE (pv 0) (pv 1))) (ky (kM (Jq Z kf T.b_list kf T.b_range (ki (kK lO (pv 2) (pv 3)) (ki (pv 0) (ki (pv 3) kS))))))),?_⟩;refine⟨_,Z,_,Z,_,_,Z,Z,lR J J,?_⟩;dsimp only;rw[Cp];refine⟨_,Z,_,Z,_,_,Z,Z,(show (0:Int)<st by lia),_,Z,_,Z,_,_,_,Z,⟨lo0,J,J,J,J,J⟩,?_⟩;have cn:=Rg.IK E9 (show 0<p.toNat by lia) JH ë;have c3:xE (ë%(st:Int)) (n:Int) (st:Int)=p.toNat:=by unfold xE;rw[if_pos cn.1];exact cn.2
 rw[c3];exact q
theorem Bg (T:Txt K mg CF cN):Df P w K mg base 2 "lay_ring" ["load","p","hole","many"] QU:=by
 refine mf T.d_lay_ring BM fun f cdv A outer s H vs Q E hr nd h=>?_;obtain⟨r,a,n,p,ë,à,rfl,ha,la,n1,n2,p2,pd,q⟩:=h;obtain⟨st,Cp,E9,JH,ple⟩:=Rg.zL n1 p2 pd;have stn:(st:Int)<=n:=by rw[<-Cp];exact b8 _ J
 refine⟨_,(ky (mD aJ Z (lG (kW (yg T) hr (ki (oG T.b_len (pv 0)) (ki (pv 1) (ki (pv 2) kS))))) (mT 4 nd) (ky (pY (kK lU (k7 lP (pv 0) (pv 4)) (pv 3)) (pZ (pv 0) (pv 4) set_list))))),?_⟩;refine⟨_,Z,r,_,Z,.inl (kR.of ha),_,Z,_,Z,n,p,ë,st,by rw[xk la];rfl,n1,n2,p2,ple,Cp,E9,JH,fun t ht=>⟨t,Z,⟨_,kR.of ko⟩,?_⟩⟩;have nt:r≠t:=kP ha ht;have kp0:∀c o,c≠r->H c=some o->upd H t (.lst ((Cd (ë%st) st p.toNat).map zaa)) c=some o:=fun c o _ h=>(kO (kP h ht)).trans h;have ha0:upd H t (.lst ((Cd (ë%st) st p.toNat).map zaa)) r=some (.lst (a.map zaa)):=(kO nt).trans ha;have LG:upd H t (.lst ((Cd (ë%st) st p.toNat).map zaa)) t=some (.lst ((Cd (ë%st) st p.toNat).map zaa)):=ko;generalize upd H t (.lst ((Cd (ë%st) st p.toNat).map zaa))=H0 at kp0 ha0 LG ⊢;have rl:((Cd (ë%st) st p.toNat).map zaa).length=p.toNat:=by unfold Cd;rw[List.length_map,List.length_map,List.length_range]
 refine nu (xs:=(Cd (ë%st) st p.toNat).map zaa) (fun i σ H2=>(∀c o,c≠r->H c=some o->H2 c=some o)/\H2 t=some (.lst ((Cd (ë%st) st p.toNat).map zaa))/\∃(b:List Int)(o1:Option V),σ=[some (.ref r),some (.int p),some (.int ë),some (.int à),o1]/\H2 r=some (.lst (b.map zaa))/\b.length=n /\
   ∀x:Int,zae b x=zae a x+(if (x-ë)%st=0/\(x%n)/st<(i:Int) then à else 0))
  ⟨kp0,LG,a,none,Z,ha0,la,Rg.lay0 J E9 ë à a⟩ (fun i σ H2 _ z=>kR.of z.2.1) ?_ ?_
 .rintro i xv σ H2 hx ⟨kp,O2,b,o1,rfl,hb,lb,inv⟩;obtain⟨k,rfl,ek⟩:=int_at hx;have hi:i<p.toNat:=by have:=(aF.mp hx).1;rwa [rl] at this
  have YD:k=ë%st+(i:Int)*st:=by
   unfold Cd at ek;rw[af,dH hi] at ek;exact(bL ek).symm
  subst YD;obtain⟨y0,y1,nx⟩:=Rg.US E9 JH hi lb inv;refine⟨_,Z,_,Z,r,_,_,_,Z,Z,kR.of hb,AX y0 J,_,Z,_,_,Z,Z,_,Z,_,Z,r,_,_,_,Z,Z,hb,qH y0 (by rw[xk lb];exact y1),?_⟩;rw[set_int];exact⟨fun c o ne h=>(kO ne).trans (kp c o ne h),(kO (cM nt)).trans O2,_,_,Z,ko,by rw[cq,lb],nx⟩
 .rintro σ H2 ⟨kp,_,b,o1,rfl,hb,lb,inv⟩;rw[rl] at inv;refine q H2 b kp hb lb fun x=>?_;rw[Rg.WE E9 (show 0<p.toNat by lia) JH inv x];unfold zbc;rw[Cp]
inductive Wj (vs:List V)(H:Hp)(Q:VK)(_:XK):Prop
 | mk (p q:Int)(_:vs=[.int p,.int q])(_:2<=p)(_:p<=10000)(_:Q (.int (q-q/p)) H)
theorem qY (T:Txt K mg CF cN):Df P w K mg base 1 "first_dropped" ["p","q"] Wj:=by
 refine mf T.d_first_dropped uY fun f cdv A outer s H vs Q E hr nd h=>?_;obtain⟨p,q,rfl,p2,pz,k⟩:=h;refine⟨_,(ky (kM (kK nV (pv 1) (kK lE (pv 1) (pv 0))))),?_⟩;exact⟨_,Z,_,Z,_,Z,_,_,Z,Z,lR J J,_,_,Z,Z,k⟩
theorem D6 {n:Nat}{ps:List (Int×Int)}{p q:Int}(hp:zav n ps)(mem:(p,q)∈ps):2<=p/\p<=q/\q<=n:=by
 have a:=Pt.tR (hp.row _ mem);have b:=Pt.Dz ps hp.row _ mem;rw[hp.prd] at b;exact⟨a.1,a.2,b⟩
inductive FH (vs:List V)(H:Hp)(Q:VK)(_:XK):Prop
 | mk (n:Nat)(p q:Int)(ps:List (Int×Int))(_:vs=[.int n,.int p,.int q])(_:1<=n)(_:n<=420)(_:zav n ps)(_:(p,q)∈ps)(_:∀u r H',((n:Int)/q*u-1)%q=0->kD H H'->H r=none->H' r=some (.lst ((zcn p q u n).map zaa))->Q (.ref r) H')
theorem C6 (T:Txt K mg CF cN):Df P w K mg base 5 "dropped" ["n","p","q"] FH:=by
 refine mf T.d_dropped DK fun f cdv A outer s H vs Q E hr nd h=>?_;obtain⟨n,p,q,ps,rfl,n1,n2,hp,mem,k⟩:=h;have pq:=D6 hp mem;refine⟨_,(kh (kU 3 nd (kW (xP T) hr (kZ (kK lE (pv 0) (pv 2)) (pv 2)))) (ky (kM (om [("q",2),("p",1),("lead",3)] ["hole"] (nM kf T.b_range (lJ (pv 0))) (fun C s H fp=>⟨(oM 3),(En (mC Ms (kK lO (kK lL (pv 3) (pv 2)) (pv 0)) (kW (qY T) hr (kZ (pv 1) (pv 0))))),(pv 3)⟩))))),?_⟩;refine⟨_,Z,_,Z,_,_,Z,Z,lR J J,_,Z,_,q,Z,J,J,Rs.Ai hp mem,fun u HB u1 u2 hu MJ=>?_⟩;have pc:=Rt.Pc.mk' n1 hp mem hu;refine⟨_,Z,_,Z,J,J,?_⟩;rw[ae];refine qD (fun i ys H2=>H2=HB/\ys=(zcn p q u i).map zaa) ⟨Z,Z⟩ (fun i ys H2 hi z=>by rw[z.2,aa];have:=Rt.Ay (p:=p) (q:=q) (u:=u) i;exact nQ J) ?_ ?_
 .rintro i ys H2 hi ⟨rfl,rfl⟩;refine⟨_,Z,_,Z,_,_,Z,Z,oV J J,_,Z,_,_,Z,Z,(show 0<q by lia),_,Z,_,Z,p,q,Z,pq.1,J,_,_,Z,Z,_,Z,?_⟩;refine nw (fun c=>?_) (fun c=>?_)
  .have t:=(pc.Aj i).mp (dec c);refine⟨_,Z,Z,?_⟩;simp only[zcn];rw[aB t,aS];rfl
  .have t:¬Rt.top p q u i=p-1:=fun z=>uR c ((pc.Aj i).mpr z);refine⟨Z,?_⟩;simp only[zcn];rw[ak t,fU]
 .rintro ys H2 ⟨rfl,rfl⟩ D hD;exact k u D _ hu (ku MJ hD) (MJ.free hD) ko
inductive Nd (K:zdg)(vs:List V)(H:Hp)(Q:VK)(_:XK):Prop
 | mk (r:Addr)(a:List Int)(n:Nat)(_:vs=[.ref r])(_:kR K H r (a.map zaa))(_:a.length=n)(_:1<=n)(_:n<=420)(_:∀t le ro H' b ps l è,kD H H'->H t=none->H le=none->H ro=none->H' t=some (.tup [.ref le,.ref ro])->H' le=some (.lst (b.map zaa))->b.length=n->zcd n ps l->(∀x,zae b x=Rt.R n l (zae a) x)->An H' ro è->(Rt.qJ n (fun p _=>p∈ps.map Prod.fst) a b è/\è.length<=4000)->Q (.ref t) H')
theorem Ev (T:Txt K mg CF cN):Df P w K mg base 6 "rest" ["load"] (Nd K):=by
 refine mf T.d_rest J6 fun f cdv A outer s H vs Q E hr nd h=>?_;obtain⟨r,a,n,rfl,ha,la,n1,n2,q⟩:=h;refine⟨_,(kh (kU 1 nd (oG T.b_len (pv 0))) (kh (kU 2 nd (oE nY kf T.b_list zci (lJ (pv 0)))) (kh (kU 3 nd (mF kS)) (kh (mD aJ Z (lG (kW (sO T) hr (lJ (pv 1)))) (nI Z (kX (mT 4 nd) (kX (mT 5 nd) mS))) (ky (mD aJ Z (lG (kW (C6 T) hr (ki (pv 1) (ki (pv 4) (ki (pv 5) kS))))) (mT 6 nd) (kh (kU 7 nd (k7 lP (pv 2) (pv 6))) (ky (mh (mC oN (pv 7) ks) (kh (oy (kW (Bg T) hr (ki (pv 2) (ki (pv 4) (ki (pv 6) (ki (sG p7 (pv 7)) kS)))))) (ky (oy (vy cV cQ cR oF (pv 3) (lJ (mE (ki (pv 4) (ki (pv 6) (ki (pv 7) kS))))))))) k9)))))) (ky (kM (mE (kZ (pv 2) (pv 3))))))))),?_⟩;refine⟨_,Z,r,_,Z,.inl ha,?_⟩;rw[xk la];refine⟨_,Z,r,_,Z,.inl ha,fun le hle=>?_⟩;refine⟨cX _,fun ro Gq=>?_⟩;have UG:le≠ro:=kP ko Gq;have ro0:H ro=none:=by rwa [kO (cM UG)] at Gq
 have rL:kD H (upd (upd H le (.lst (a.map zaa))) ro (.lst [])):=ku (ku (kD.refl _) hle) Gq;have UH:upd (upd H le (.lst (a.map zaa))) ro (.lst []) le=some (.lst (a.map zaa)):=(kO UG).trans ko;have yF:upd (upd H le (.lst (a.map zaa))) ro (.lst []) ro=some (.lst []):=ko;generalize upd (upd H le (.lst (a.map zaa))) ro (.lst [])=H0 at rL UH yF ⊢;refine⟨_,Z,n,Z,J,J,fun r1 H1 ps mQ f1 pa hp=>?_⟩;obtain⟨as,hl,pr⟩:=pa;have al:=fJ pr;have Co:=Rt.yP hp n2;have n1l:r1≠le:=cM (kP UH f1);have n1r:r1≠ro:=cM (kP yF f1);have kH:∀{H':Hp},(∀c o,c≠le->c≠ro->H1 c=some o->H' c=some o)->kD H H':=fun kp c o h=>kp c o (fun z=>by rw[z,hle] at h;cases h) (fun z=>by rw[z,ro0] at h;cases h) (mQ _ _ (rL _ _ h));have tl:∀{x:Addr}{o:List V},H1 x=some (.tup o)->x≠le/\x≠ro:=fun e=>⟨oB e (mQ _ _ UH) (fun z=>by cases z),oB e (mQ _ _ yF) (fun z=>by cases z)⟩;refine⟨r1,Z,⟨_,kR.of hl⟩,?_⟩;refine nu (xs:=as.map zac) (fun i σ H4=>(∀c o,c≠le->c≠ro->H1 c=some o->H4 c=some o)/\∃(b:List Int)(l:List ((Int×Int)×Int))(è:List (Int×Int×Int))(o1 o2 o3 o4:Option V),σ=[some (.ref r),some (.int n),some (.ref le),some (.ref ro),o1,o2,o3,o4] /\
   H4 le=some (.lst (b.map zaa))/\b.length=n/\l.map Prod.fst=ps.take i/\(∀z∈l,((n:Int)/z.1.2*z.2-1)%z.1.2=0)/\(∀x,zae b x=Rt.R n l (zae a) x)/\An H4 ro è/\Rt.qJ n (fun p _=>p∈(ps.take i).map Prod.fst) a b è/\è.length<=i*n)
  ⟨fun c o _ _ h=>h,a,[],[],none,none,none,none,Z,mQ _ _ UH,la,ke,ke,fun x=>Z,⟨[],mQ _ _ yF,.nil⟩,Rt.rows0 a,ke⟩ (fun i σ H4 _ z=>kR.of (z.1 _ _ n1l n1r hl)) ?_ ?_
 .rintro i x σ H4 hx ⟨kp,b,l,è,o1,o2,o3,o4,rfl,hb,lb,lm,UI,bv,tr,rok,rl⟩;obtain⟨ad,rfl,ea⟩:=pI hx;obtain⟨⟨p,z⟩,ep,LL⟩:=mj pr ea;have mem:(p,z)∈ps:=ah ep;have ilt:=(aF.mp ep).1;have pq:=D6 hp mem;have pd:p∣(n:Int):=((zdd hp (p,z)).mp mem).2.1;have nt:=tl LL;have lpc:∀y∈l,Rt.Pc n y.1.1 y.1.2 y.2:=fun y hy=>Rt.Pc.mk' n1 hp (gu (by rw[<-lm];exact dR.mpr ⟨y,hy,Z⟩)) (UI y hy);refine⟨ad,_,Z,lX.of (kp _ _ nt.1 nt.2 LL),Z,_,_,Z,_,_,Z,Z,?_⟩;refine⟨_,Z,_,Z,_,Z,n,p,z,ps,Z,n1,n2,hp,mem,fun u r5 H5 hu ol f5 h5=>⟨r5,Z,⟨_,kR.of h5⟩,?_⟩⟩;have pc:=Rt.Pc.mk' n1 hp mem hu;have JV:zbb n (zae b):=zcw lb;have n5l:r5≠le:=cM (kP hb f5);have n5r:r5≠ro:=by obtain⟨x,y,_⟩:=tr;exact Ne.symm (kP y f5)
  have zhk:=Rt.Ay (p:=p) (q:=z) (u:=u) n;have newp:∀x:Int,x∈(ps.take i).map Prod.fst->¬x=p:=fun x hx e=>by
   obtain⟨y,hy,ey⟩:=List.mem_map.mp hx;obtain⟨j,hj,ej⟩:=List.mem_iff_getElem.mp hy;rw[cO] at hj;rw[ix] at ej;have pw:=de.mp hp.srt j i J ilt J;rw[ej,(aF.mp ep).2] at pw;have:y.1<p:=pw;lia
  refine nu (xs:=(zcn p z u n).map zaa) (fun j σ H6=>(∀c o,c≠le->c≠ro->H5 c=some o->H6 c=some o)/\∃(b6:List Int)(vR:List (Int×Int×Int))(o3 o4:Option V),σ=[some (.ref r),some (.int n),some (.ref le),some (.ref ro),some (.int p),some (.int z),o3,o4] /\
    H6 le=some (.lst (b6.map zaa))/\Rt.PI n p z u (zae b) j b6/\An H6 ro vR/\Rt.qJ n (fun x y=>x∈(ps.take i).map Prod.fst\/(x=p/\y∈(zcn p z u n).take j)) a b6 vR/\vR.length<=i*n+j)
   ⟨fun c o _ _ h=>h,b,è,_,_,Z,ol _ _ hb,Rt.pi0 lb (fun _=>Z),tr.same ol,rok.weak (fun x y h=>.inl h),J⟩ (fun j σ H6 _ y=>kR.of (y.1 _ _ n5l n5r h5)) ?_ ?_
  .rintro j xv σ H6 hxj ⟨kp6,b6,vR,o3,o4,rfl,PQ,pi,UJ,LU,rl6⟩;obtain⟨k,rfl,ek⟩:=int_at hxj;have km:=ah ek;obtain⟨k0,k1,kt⟩:=Rt.rj.mp km;have jlt:=(aF.mp ek).1;have kv:=pc.Ny pi ek;refine⟨_,Z,_,Z,le,_,_,_,Z,Z,kR.of PQ,AX k0 (by rw[pi.len];exact k1),?_⟩;rw[kv];refine⟨_,Z,Z,_,Z,?_⟩;have wk:∀x y:Int,(x∈(ps.take i).map Prod.fst\/(x=p/\y∈(zcn p z u n).take j))->(x∈(ps.take i).map Prod.fst\/(x=p/\y∈(zcn p z u n).take (j+1))):=fun x y h=>h.imp id fun h=>⟨h.1,(Rt.sy ek).mpr (.inl h.2)⟩;refine nw (fun c=>?_) (fun c=>?_)
   .have mz:¬zae b k=0:=Mr c;obtain⟨rs,Te,Tg⟩:=id UJ;have rsl:=fJ Tg;refine⟨_,Z,_,Z,_,Z,_,Z,_,Z,le,b6,n,p,k,_,Z,PQ,pi.len,n1,n2,pq.1,pd,fun H7 b7 kp7 Th lb7 Ti=>?_⟩;have UK:H7 ro=some (.lst (rs.map zac)):=kp7 _ _ (cM UG) Te;refine⟨_,Z,.inl ⟨Z,_,kR.of UK⟩,_,Z,_,Z,_,Z,kY,fun t ht=>?_⟩;have hr8:upd H7 t (.tup [zaa p,zaa k,zaa (zae b k)]) ro=some (.lst (rs.map zac)):=(kO (kP UK ht)).trans UK;have rot:ro≠t:=kP UK ht;refine⟨ro,_,_,Z,Z,hr8,by rw[aa,rsl];have:=dr (show i<=8 by lia) n2;exact nQ J,?_⟩;have kp8:∀{c:Addr}{o:HO},c≠le->c≠ro->H6 c=some o->upd (upd H7 t (.tup [zaa p,zaa k,zaa (zae b k)])) ro (.lst (rs.map zac++[.ref t])) c=some o:=fun x y e=>by
     have e7:=kp7 _ _ x e;exact((kO y).trans (kO (kP e7 ht))).trans e7
    refine⟨fun c o x y h=>kp8 x y (kp6 c o x y h),b7,vR++[(p,k,zae b k)],_,_,Z,((kO UG).trans (kO (kP Th ht))).trans Th,pc.ZU JV pi ek lb7 Ti,⟨rs++[t],by rw[ko,aS];rfl,?_⟩,?_,by simp;lia⟩
    .refine iV (Paired.yp Tg fun d x e=>?_) ((kO (cM rot)).trans ko);exact kp8 (oB e PQ (fun z=>by cases z)) (oB e Te (fun z=>by cases z)) e
    .exact LU.snoc wk (.inr ⟨Z,(Rt.sy ek).mpr (.inr Z)⟩) (fun x y h e=>h.elim (fun h=>newp x h e.1) fun h=>Rt.w6 (Rt.wq n) ek (e.2▸h.2)) k0 k1 mz Ti
   .have mz:zae b k=0:=FA c;exact⟨kp6,b6,vR,_,_,Z,PQ,pc.UQ JV pi ek mz,UJ,LU.weak wk,J⟩
  .rintro σ H6 ⟨kp6,b6,vR,o3,o4,rfl,PQ,pi,UJ,LU,rl6⟩;rw[aa] at pi rl6;refine⟨fun c o x y h=>kp6 c o x y (ol _ _ (kp c o x y h)),b6,l++[((p,z),u)],vR,_,_,_,_,Z,PQ,pi.len,by rw[aS,lm,zba ep];rfl,fun y hy=>?_,fun x=>?_,UJ,LU.weak (fun x y h=>?_),?_⟩
   .rcases List.mem_append.mp hy with w | w
    .exact UI y w
    .rw[bF.mp w];exact hu
   .rw[pc.NP pi,Rt.DE];have:zae b=Rt.R n l (zae a):=funext bv;rw[this]
   .rw[zba ep,aS];rcases h with w | w
    .exact cA _ w
    .exact aZ _ (by rw[w.1];simp)
   .rw[gZ];lia
 .rintro σ H4 ⟨kp,b,l,è,o1,o2,o3,o4,rfl,hb,lb,lm,UI,bv,tr,rok,rl⟩;rw[aa,al,bY] at lm rok;have rl4:è.length<=4000:=by rw[aa,al] at rl;have:=dr Co n2;lia
  refine⟨_,Z,_,Z,kq,fun t ht=>?_⟩;have Td:kD H4 (upd H4 t (.tup [zac le,zac ro])):=ku (kD.refl _) ht;have JW:=kH kp;exact q t le ro _ b ps l è (JW.trans Td) (JW.free ht) hle ro0 ko (Td _ _ hb) lb ⟨n1,hp,lm,UI⟩ bv (tr.same Td) ⟨rok,rl4⟩
inductive Ri (vs:List V)(H:Hp)(Q:VK)(_:XK):Prop
 | mk (n:Nat)(ë:Int)(ps:List (Int×Int))(l:List ((Int×Int)×Int))(_:vs=[.int n,.int ë])(_:1<=n)(_:n<=420)(_:zcd n ps l)(_:∀H',kD H H'->Q (.bl (decide (zce l ë))) H')
theorem xw (T:Txt K mg CF cN):Df P w K mg base 6 "is_kept" ["n","hole"] Ri:=by
 refine mf T.d_is_kept CJ fun f cdv A outer s H vs Q E hr nd h=>?_;obtain⟨n,ë,ps,l,rfl,n1,n2,qx,q⟩:=h;refine⟨_,(ky (kM (lH (sP Z) kf T.b_all L2.AE (lJ (om [("n",0),("hole",1)] ["p","q"] (lG (kW (sO T) hr (lJ (pv 0)))) (fun C s H fp=>⟨(uZ 2 3),lC,(nX A2 (kW (BN T) hr (ki (pv 0) (ki (pv 3) (ki (pv 1) kS)))) (kW (qY T) hr (kZ (pv 2) (pv 3))) (oO _))⟩)))))),?_⟩;refine⟨_,Z,_,Z,J,J,fun r1 H1 Gs mQ f1 pa Fb=>?_⟩;have O3:=zdc Fb qx.hp;subst O3;obtain⟨as,hl,pr⟩:=pa;have al:=fJ pr;have lp:(Gs.length:Int)<=n:=Rs.FK Fb;have ll:l.length=Gs.length:=by have:=cU List.length qx.map;rwa [aa] at this
 refine⟨r1,Z,⟨_,kR.of hl⟩,?_⟩;refine pV (K:=K) (xs:=as.map zac) (fun i ys H2=>kD H1 H2/\ys=((l.take i).map fun z=>decide ¬Rt.top z.1.1 z.1.2 z.2 ë=z.1.1-1).map zbv) ⟨kD.refl _,ke⟩ (fun i ys H2 _ z=>z.1.seq (kR.of hl))
  (fun i ys H2 hi z=>by rw[aa] at hi;rw[z.2];simp only[List.length_map,List.length_take];exact nQ J) ?_ ?_
 .rintro i x ys H2 hx ⟨mX,rfl⟩;obtain⟨ad,rfl,ea⟩:=pI hx;obtain⟨⟨p,z⟩,ep,ha⟩:=mj pr ea;have mem:(p,z)∈Gs:=ah ep;have pq:=D6 Fb mem;have hi:i<l.length:=by rw[ll];exact(aF.mp ep).1
  have el:l[i]?=some l[i]:=az hi;have e1:l[i].1=(p,z):=by
   have:(l.map Prod.fst)[i]?=some l[i].1:=by rw[af,el];rfl
   rw[qx.map,ep] at this;exact(bL this).symm
  have O4:=qx.pc (cx hi);have PR:=qx.le _ (cx hi);generalize l[i]=zz at *;obtain⟨z1,u⟩:=zz;dsimp only at e1;subst e1;dsimp only at O4 PR;refine⟨ad,_,Z,lX.of (mX _ _ ha),Z,_,_,Z,_,_,Z,Z,?_⟩;refine⟨_,Z,_,Z,_,Z,n,z,ë,Gs,p,Z,J,J,Fb,mem,fun c H3 sh mJ=>?_⟩;refine⟨_,Z,_,Z,p,z,Z,pq.1,J,?_⟩;have ec:c=ë*u%z:=Rs.Ab (Rs.ug Fb mem) sh (zcr (by show 0<z;lia) PR) ziZ;have Zs:=O4.Aj ë;refine⟨_,_,Z,Z,mX.trans mJ,?_⟩;rw[zba el,aS,aS,gJ,gJ];congr 2;show zbv (decide (c<z-z/p))=zbv (decide ¬Rt.top p z u ë=p-1)
  congr 1;rw[fe,fW,fW,<-Zs,ec];lia
 .rintro ys H2 ⟨mX,rfl⟩ D hD;rw[aa,al,<-ll,bY];refine⟨D,_,Z,kR.of ko,?_⟩;have e:((l.map fun z=>decide ¬Rt.top z.1.1 z.1.2 z.2 ë=z.1.1-1).all id)=decide (zce l ë):=by
   rw[fe,dL,fW];unfold zce;constructor
   .intro a z hz;exact fk (a _ (dR.mpr ⟨z,hz,rfl⟩))
   .intro a b hb;obtain⟨z,hz,ez⟩:=List.mem_map.mp hb;rw[<-ez];exact b5 (a z hz)
  rw[e];exact q _ (ku (mQ.trans mX) hD)
inductive J5 (vs:List V)(H:Hp)(Q:VK)(_:XK):Prop
 | mk (p c:Int)(q:Nat)(_:vs=[.int p,.int q,.int c])(_:2<=p)(_:p<=q)(_:q<=420)(_:1<=(q:Int)/p)(_:0<=c)(_:c<q)(_:∀t H' F,kD H H'->H' t=some (.lst (F.map zaa))->F.length=q->(∀i:Int,0<=i->i<q->zae F i=if i=(q:Int)-q/p+c%(q/p) then -1 else if i=c then 1 else 0)->Q (.ref t) H')
theorem vq (T:Txt K mg CF cN):Df P w K mg base 1 "part_weighing" ["p","q","kept_share"] J5:=by
 refine mf T.d_part_weighing vd fun f cdv A outer s H vs Q E hr nd h=>?_;obtain⟨p,c,n,rfl,p2,pn,n2,m1,c0,c1,q⟩:=h;have mq:(n:Int)/p<=n:=b8 _ J;have l0:=aE c (show (n:Int)/p≠0 by lia);have l1:=aA c (show 0<(n:Int)/p by lia);refine⟨_,(kh (kU 3 nd (kK lE (pv 1) (pv 0))) (kh (kU 4 nd (kK pJ (mF (lJ ks)) (pv 1))) (kh (pY ks (pZ (pv 4) (pv 2) set_list)) (kh (pY (sG p7 ks) (pZ (pv 4) (kK lU (kK nV (pv 1) (pv 3)) (kK lO (pv 2) (pv 3))) set_list)) (ky (kM (pv 4))))))),?_⟩;refine⟨_,Z,_,Z,_,_,Z,Z,lR J J,?_⟩;refine⟨kC,fun l hl=>⟨_,Z,l,_,_,Z,Z,ko,kg,kg,(by show 1*_<=_;exact n5 kg),fun du MS=>?_⟩⟩;rw[rep0];have Tj:l≠du:=kP ko MS;have JY:H du=none:=by rwa [kO (cM Tj)] at MS
 have rL:kD H (upd (upd H l (.lst [zaa 0])) du (.lst ((List.replicate n (0:Int)).map zaa))):=lI (lI (kD.refl H) hl) JY;have MT:upd (upd H l (.lst [zaa 0])) du (.lst ((List.replicate n (0:Int)).map zaa)) du=some (.lst ((List.replicate n (0:Int)).map zaa)):=ko;generalize upd (upd H l (.lst [zaa 0])) du (.lst ((List.replicate n (0:Int)).map zaa))=H0 at rL MT ⊢;refine⟨_,Z,_,Z,du,_,_,_,Z,Z,MT,qH c0 (by rw[xk (aQ)];exact c1),?_⟩;rw[set_int];have mQ:kD H (upd H0 du (.lst (((List.replicate n (0:Int)).set c.toNat 1).map zaa))):=lI rL JY;have hd1:upd H0 du (.lst (((List.replicate n (0:Int)).set c.toNat 1).map zaa)) du=some (.lst (((List.replicate n (0:Int)).set c.toNat 1).map zaa)):=ko;generalize upd H0 du (.lst (((List.replicate n (0:Int)).set c.toNat 1).map zaa))=H1 at mQ hd1 ⊢;have Zt:((List.replicate n (0:Int)).set c.toNat 1).length=n:=by rw[cq,aQ]
 refine⟨_,Z,_,Z,_,Z,_,Z,_,_,Z,Z,_,Z,_,Z,_,_,Z,Z,(show 0<(n:Int)/p by lia),_,_,Z,Z,du,_,_,_,Z,Z,hd1,qH J (by rw[xk Zt];lia),?_⟩;rw[set_int];refine⟨_,Z,q du _ _ (lI mQ JY) ko (by rw[cq,Zt]) fun i i0 i1=>?_⟩;have e1:((n:Int)-n/p+c%(n/p)).toNat=(((n:Int)-n/p+c%(n/p))%n).toNat:=by rw[aX (a:=(n:Int)-n/p+c%(n/p)) (b:=(n:Int)) J J]
 have e2:c.toNat=(c%n).toNat:=by rw[aX c0 c1]
 rw[e1,Ld.Al Zt J,e2,Ld.Al (aQ) J,Ld.Ih,aX i0 i1,aX c0 c1,aX (show 0<=(n:Int)-n/p+c%(n/p) by lia) J]
inductive Dp (vs:List V)(H:Hp)(Q:VK)(_:XK):Prop
 | mk (n:Nat)(ë:Int)(ps:List (Int×Int))(l:List ((Int×Int)×Int))(_:vs=[.int n,.int ë])(_:1<=n)(_:n<=420)(_:zcd n ps l)(_:zce l ë)(_:∀t H' W,kD H H'->H t=none->H' t=some (.lst (W.map zaa))->W.length=n->(∀k:Nat,k<n->zae W k=Rt.V l ë k)->Q (.ref t) H')
theorem vK (T:Txt K mg CF cN):Df P w K mg base 7 "weighing" ["n","hole"] Dp:=by
 refine mf T.d_weighing BL fun f cdv A outer s H vs Q E hr nd h=>?_;obtain⟨n,ë,ps,l,rfl,n1,n2,qx,kpt,q⟩:=h;refine⟨_,(kh (mh (oW (oA (kW (xw T) hr (kZ (pv 0) (pv 1))))) (ky xt) k9) (kh (kU 2 nd (kK pJ (mF (lJ ks)) (pv 0))) (kh (mD aJ Z (lG (kW (sO T) hr (lJ (pv 0)))) (nI Z (kX (mT 3 nd) (kX (mT 4 nd) mS))) (kh (kU 5 nd (kW (vq T) hr (ki (pv 3) (ki (pv 4) (ki (kW (BN T) hr (ki (pv 0) (ki (pv 4) (ki (pv 1) kS)))) kS))))) (kh (kU 6 nd (kW (xP T) hr (kZ (kK lE (pv 0) (pv 4)) (pv 4)))) (ky (vV 2 [("factors",5),("q",4),("lead",6)] ["k","number"] nd (pR kf T.b_enumerate (lJ (pv 2))) (fun C s H fp=>⟨(uZ 3 4),lC,(kK lL (pv 4) (k7 (qj (K:=K) Z) (pv 0) (kK lO (kK lL (pv 3) (pv 2)) (pv 1))))⟩)))))) (ky (kM (pv 2)))))),?_⟩;refine⟨_,Z,_,Z,n,ë,ps,l,Z,n1,n2,qx,fun HK Zu=>?_⟩;rw[b5 kpt];refine⟨true,Z,uK ?_⟩;refine⟨kC,fun lo zD=>⟨_,Z,lo,_,_,Z,Z,ko,J,J,ziV,fun du MS=>?_⟩⟩;rw[rep1];have Tj:lo≠du:=kP ko MS;have JY:HK du=none:=by rwa [kO (cM Tj)] at MS
 have rL:kD HK (upd (upd HK lo (.lst [zaa 1])) du (.lst ((List.replicate n (1:Int)).map zaa))):=lI (lI (kD.refl HK) zD) JY;have MT:upd (upd HK lo (.lst [zaa 1])) du (.lst ((List.replicate n (1:Int)).map zaa)) du=some (.lst ((List.replicate n (1:Int)).map zaa)):=ko;generalize upd (upd HK lo (.lst [zaa 1])) du (.lst ((List.replicate n (1:Int)).map zaa))=H0 at rL MT ⊢;refine⟨_,Z,_,Z,J,J,fun r1 H1 Gs mQ f1 pa Fb=>?_⟩;have O3:=zdc Fb qx.hp;subst O3;obtain⟨as,hl,pr⟩:=pa;have al:=fJ pr;have ll:l.length=Gs.length:=by have:=cU List.length qx.map;rwa [aa] at this
 have fdu:H du=none:=Zu.free JY;refine⟨r1,Z,⟨_,kR.of hl⟩,?_⟩;refine nu (xs:=as.map zac) (fun i σ H4=>kD H1 H4/\∃(ou:Addr)(b:List Int)(o1 o2 o3 o4:Option V),σ=[some (.int n),some (.int ë),some (.ref ou),o1,o2,o3,o4]/\H ou=none/\H4 ou=some (.lst (b.map zaa))/\b.length=n/\∀k:Nat,k<n->zae b k=Rt.V (l.take i) ë k)
  ⟨kD.refl _,du,List.replicate n 1,none,none,none,none,Z,fdu,mQ _ _ MT,ke,fun k hk=>zch (by rw[List.getElem?_replicate,if_pos hk];rfl)⟩ (fun i σ H4 _ z=>z.1.seq (kR.of hl)) ?_ ?_
 .rintro i x σ H4 hx ⟨nJ,ou,b,o1,o2,o3,o4,rfl,fou,hb,lb,inv⟩;obtain⟨ad,rfl,ea⟩:=pI hx;obtain⟨⟨p,z⟩,ep,ha⟩:=mj pr ea;have mem:(p,z)∈Gs:=ah ep;have pq:=D6 Fb mem;have hi:i<l.length:=by rw[ll];exact(aF.mp ep).1
  have el:l[i]?=some l[i]:=az hi;have e1:l[i].1=(p,z):=by
   have:(l.map Prod.fst)[i]?=some l[i].1:=by rw[af,el];rfl
   rw[qx.map,ep] at this;exact(bL this).symm
  have O4:=qx.pc (cx hi);have PR:=qx.le _ (cx hi);have kpz:=kpt _ (cx hi);generalize l[i]=zz at *;obtain⟨z1,u⟩:=zz;dsimp only at e1;subst e1;dsimp only at O4 PR kpz;obtain⟨m,em,Go,m1⟩:=O4.m;have Zv:kD H H4:=((Zu.trans rL).trans mQ).trans nJ;refine⟨ad,_,Z,lX.of (nJ _ _ ha),Z,_,_,Z,_,_,Z,Z,?_⟩;refine⟨_,Z,_,Z,_,Z,_,Z,_,Z,n,z,ë,Gs,p,Z,J,J,Fb,mem,fun c H5 sh ol=>?_⟩;have ec:c=ë*u%z:=Rs.Ab (Rs.ug Fb mem) sh (zcr (by show 0<z;lia) PR) ziZ;have cb:=O4.Qi ë;have ez:z=((z.toNat:Nat):Int):=J;refine⟨p,c,z.toNat,by rw[<-ez];rfl,pq.1,J,J,by rw[<-ez,Go];exact m1,J,J,fun ft H6 F rh h6 lF hF=>?_⟩;rw[<-ez] at hF;refine⟨_,Z,_,Z,_,_,Z,Z,lR J J,_,Z,_,z,Z,J,J,Rs.Ai Fb mem,fun v H7 v1 v2 hv se=>?_⟩;have O5:kD H4 H7:=(ol.trans rh).trans se;have Th:=O5 _ _ hb;have h67:=se _ _ h6;refine⟨_,Z,ou,Z,⟨_,kR.of Th⟩,?_⟩;refine y3 (K:=K) (xs:=b.map zaa) (fun j rs H8=>kD H7 H8/\rs=((List.range j).map fun (k:Nat)=>Rt.V (l.take (i+1)) ë k).map zaa) ⟨kD.refl _,Z⟩ (fun j rs H8 _ z=>z.1.seq (kR.of Th))
   (fun j rs H8 hj z=>by rw[aa] at hj;rw[z.2];simp only[List.length_map,List.length_range];exact nQ J) ?_ ?_
  .rintro j xv rs H8 t hx ⟨uP,rfl⟩ ht;obtain⟨w',rfl,hw⟩:=int_at hx;have ew:zae b j=w':=zch hw;have hj:j<n:=by rw[<-lb];exact(aF.mp hw).1
   have wv:=inv j hj;rw[ew] at wv;have vc:=Rt.ww (l.take i) ë j;refine⟨t,_,Z,lX.of ko,Z,_,_,Z,_,_,Z,Z,?_⟩;have kb:=aE ((j:Int)*v) (show z≠0 by lia);have kb':=aA ((j:Int)*v) (show 0<z by lia);have lv:(j:Int)*v%z=(j:Int)*u%z:=Rt.JZ Fb mem hv PR j;refine⟨_,Z,_,Z,_,Z,_,Z,_,_,Z,Z,oV J J,_,Z,_,_,Z,Z,(show 0<z by lia),ft,_,_,_,Z,Z,kR.of ((kO (kP (uP _ _ h67) ht)).trans (uP _ _ h67)),AX kb (by show (j:Int)*v%z<_;lia),_,_,Z,Z,oV J J,?_⟩;refine⟨ku uP ht,?_⟩;rw[jW,aS,aS,gJ,gJ];congr 2;show zaa (w'*zae F ((j:Int)*v%z))=_
   rw[hF _ kb kb',lv,ec,O4.M3 kpz j,wv,zba el,Rt.CY]
  .rintro rs H8 ⟨uP,rfl⟩ D hD;rw[aa,lb];have smD:kD H4 (upd H8 D (.lst (((List.range n).map fun (k:Nat)=>Rt.V (l.take (i+1)) ë k).map zaa))):=ku (O5.trans uP) hD;refine⟨nJ.trans smD,D,_,_,_,_,_,Z,Zv.free ((O5.trans uP).free hD),ko,ke,fun k hk=>?_⟩;exact zch (by rw[af,dH hk];rfl)
 .rintro σ H4 ⟨nJ,ou,b,o1,o2,o3,o4,rfl,fou,hb,lb,inv⟩;rw[aa,al,<-ll,bY] at inv;exact⟨_,Z,q ou H4 b (((Zu.trans rL).trans mQ).trans nJ) fou hb lb inv⟩
inductive KS (K:zdg)(vs:List V)(H:Hp)(Q:VK)(_:XK):Prop
 | mk (r:Addr)(a:List Int)(n:Nat)(ps:List (Int×Int))(l:List ((Int×Int)×Int))(_:vs=[.ref r])(_:kR K H r (a.map zaa))(_:a.length=n)(_:1<=n)(_:n<=420)(_:zcd n ps l)(_:Rt.Zn n l (zae a)->∀t ro H' è,kD H H'->H t=none->H ro=none->H' t=some (.tup [.str "even",.ref ro])->An H' ro è->è.length<=4000->(è.map fun t=>(t.1,t.2.1)).Nodup->(∀t∈è,t.1∈ps.map Prod.fst/\0<=t.2.1/\t.2.1<n/\¬t.2.2=0)->(∀x,zae a x=zbn n è x)->Q (.ref t) H')(_:¬Rt.Zn n l (zae a)->∀t wt H' W ë,kD H H'->H t=none->H wt=none->H' t=some (.tup [.str "uneven",.ref wt])->H' wt=some (.lst (W.map zaa))->W.length=n->zce l ë->¬Rt.R n l (zae a) ë=0->(∀k:Nat,k<n->zae W k=Rt.V l ë k)->Q (.ref t) H')
theorem Hu (T:Txt K mg CF cN):Df P w K mg base 8 "paper" ["load"] (KS K):=by
 refine mf T.d_paper Hx fun f cdv A outer s H vs Q E hr nd h=>?_;obtain⟨r,a,n,ps,l,rfl,ha,la,n1,n2,qx,qe,qu⟩:=h;refine⟨_,(kh (kU 1 nd (kW (Ev T) hr (lJ (pv 0)))) (kh (mD aJ Z (pR kf T.b_enumerate (lJ (k7 kT (pv 1) ks))) (nI Z (kX (mT 2 nd) (kX (mT 3 nd) mS))) (ky (mh (mC oN (pv 3) ks) (ky (kM (mE (kZ mR (kW (vK T) hr (kZ (oG T.b_len (pv 0)) (pv 2))))))) k9))) (ky (kM (mE (kZ mR (k7 kT (pv 1) ks))))))),?_⟩;refine⟨_,Z,r,a,n,Z,ha,la,n1,n2,fun t le ro H1 b YN l' è mQ ft fl fr ht hb lb LV bv tr rok=>?_⟩;have f0:m9 [zac le,zac ro] 0=some (.ref le):=Z;have f1:m9 [zac le,zac ro] 1=some (.ref ro):=Z;have O6:∀x,zae b x=Rt.R n l (zae a) x:=fun x=>by rw[bv,LV.one qx]
 have JV:zbb n (zae b):=zcw lb;refine⟨_,Z,t,_,_,_,Z,Z,lX.of ht,f0,le,Z,⟨_,kR.of hb⟩,?_⟩;refine p5 (K:=K) (xs:=b.map zaa) (fun i σ H2=>kD H1 H2/\(∀k:Nat,k<i->zae b k=0)/\∃(o1 o2:Option V),σ=[some (.ref r),some (.ref t),o1,o2]) ⟨kD.refl _,fun k hk=>by lia,none,none,Z⟩ (fun i σ H2 _ z=>z.1.seq (kR.of hb)) ?_ ?_
 .rintro i xv σ H2 p hx ⟨mX,zs,o1,o2,rfl⟩ hp;obtain⟨u,rfl,hu⟩:=int_at hx;have eu:zae b i=u:=zch hu;have ilt:i<n:=by rw[<-lb];exact(aF.mp hu).1
  refine⟨p,_,Z,lX.of ko,Z,_,_,Z,_,_,Z,Z,?_⟩;have mJ:kD H2 (upd H2 p (.tup [.int i,.int u])):=ku (kD.refl _) hp;generalize upd H2 p (.tup [.int i,.int u])=H3 at mJ ⊢;refine⟨_,Z,Z,_,Z,nw (fun c=>?_) (fun c=>?_)⟩
  .have nz:¬u=0:=Mr c;have kp:zce l i:=fun z hz tz=>nz (by rw[<-eu,O6,qx.drop hz _ _ tz]);have LM:=(mQ.trans mX).trans mJ;refine⟨_,Z,r,_,Z,.inl (LM.seq ha),_,Z,n,i,ps,l,by rw[xk la];rfl,n1,n2,qx,kp,fun wt H4 W nJ f4 h4 lW Wv=>⟨kq,fun tt qk=>?_⟩⟩;have LK:kD H4 (upd H4 tt (.tup [.str "uneven",.ref wt])):=ku (kD.refl _) qk;exact qu (fun z=>nz (by rw[<-eu,O6,z])) tt wt _ W i ((LM.trans nJ).trans LK) ((LM.trans nJ).free qk) (LM.free f4) ko (LK _ _ h4) lW kp (by rw[<-O6,eu];exact nz) Wv
  .have z0:u=0:=FA c;refine⟨mX.trans mJ,fun k hk=>?_,_,_,Z⟩;rcases Nat.lt_or_ge k i with g | g
   .exact zs k g
   .have:k=i:=J;rw[this,eu,z0]
 .rintro σ H2 ⟨mX,zs,o1,o2,rfl⟩;rw[aa,lb] at zs;have zn:Rt.Zn n l (zae a):=fun x=>by
   rw[<-O6,<-JV.md];have x0:=aE x (show (n:Int)≠0 by lia);have x1:=aA x (show 0<(n:Int) by lia);have:=zs (x%n).toNat J;rwa [bZ x0] at this
  refine⟨_,Z,t,_,_,_,Z,Z,lX.of (mX _ _ ht),f1,kq,fun tt qk=>?_⟩;have LK:kD H2 (upd H2 tt (.tup [.str "even",.ref ro])):=ku (kD.refl _) qk;have ep:=zdc LV.hp qx.hp;exact qe zn tt ro _ è ((mQ.trans mX).trans LK) ((mQ.trans mX).free qk) fr ko ((tr.same mX).same LK) rok.2 rok.1.nd (fun t ht=>by rw[<-ep];exact rok.1.ok t ht) fun x=>by
   rw[rok.1.eq x,O6 x,zn x,dO]
inductive M9 (vs:List V)(H:Hp)(Q:VK)(_:XK):Prop
 | mk (n:Nat)(ps:List (Int×Int))(l:List ((Int×Int)×Int))(_:vs=[.int n])(_:1<=n)(_:n<=420)(_:zcd n ps l)(_:∀t H',kD H H'->H' t=some (.lst ((zaz n l).map zaa))->Q (.ref t) H')
theorem Jc (i:Nat)(l:List ((Int×Int)×Int)):zaz (i+1) l=zaz i l++(if zce l i then [(i:Int)] else []):=by
 unfold zaz;have e:Rt.hs (i+1)=Rt.hs i++[(i:Int)]:=by unfold Rt.hs;rw[List.range_succ,List.map_append];rfl
 rw[e,List.filter_append];congr 1
 by_cases c:zce l i
 .rw[aB c,jS,aB (b5 c)];rfl
 .rw[ak c,jS,ak (by rw[fW];exact c)];rfl
theorem KZ (T:Txt K mg CF cN):Df P w K mg base 7 "kept" ["n"] M9:=by
 refine mf T.d_kept K7 fun f cdv A outer s H vs Q E hr nd h=>?_;obtain⟨n,ps,l,rfl,n1,n2,qx,q⟩:=h;refine⟨_,(ky (kM (om [("n",0)] ["hole"] (nM kf T.b_range (lJ (pv 0))) (fun C s H fp=>⟨(oM 1),(En (oA (kW (xw T) hr (kZ (pv 0) (pv 1))))),(pv 1)⟩)))),?_⟩;refine⟨_,Z,_,Z,kg,kg,?_⟩;rw[ae];refine qD (fun i ys H2=>kD H H2/\ys=(zaz i l).map zaa) ⟨kD.refl _,Z⟩ (fun i ys H2 hi z=>by rw[z.2,aa];have:=zdb i l;exact nQ kg) ?_ ?_
 .rintro i ys H2 hi ⟨sm,rfl⟩;refine⟨_,Z,_,Z,n,i,ps,l,Z,n1,n2,qx,fun H3 mJ=>⟨_,Z,?_⟩⟩;rw[Jc];refine nw (fun c=>?_) (fun c=>?_)
  .have c':=fk c;refine⟨_,Z,sm.trans mJ,?_⟩;rw[aB c',aS];rfl
  .have c':¬zce l i:=fun z=>c (b5 z);refine⟨sm.trans mJ,?_⟩;rw[ak c',fU]
 .rintro ys H2 ⟨sm,rfl⟩ D hD;exact q D _ (ku sm hD) ko
inductive NL (K:zdg)(vs:List V)(H:Hp)(Q:VK)(_:XK):Prop
 | mk (r s:Addr)(a b:List Int)(_:vs=[.ref r,.ref s])(_:kR K H r (a.map zaa))(_:kR K H s (b.map zaa))(_:a.length=b.length)(_:a.length<=420)(_:∀t H',kD H H'->H t=none->H' t=some (.lst ((Ld.plus a b).map zaa))->Q (.ref t) H')
theorem KJ (T:Txt K mg CF cN):Df P w K mg base 2 "plus" ["one","other"] (NL K):=by
 refine mf T.d_plus Lu fun f cdv A outer s H vs Q E hr nd h=>?_;obtain⟨r,s',a,b,rfl,ha,hb,e,hz,q⟩:=h;refine⟨_,(kh (oy (kW (uE T) hr (kZ (pv 0) (pv 1)))) (ky (kM (om [] ["weight","more"] (pH kf T.b_zip (kZ (pv 0) (pv 1))) (fun C s H fp=>⟨(uZ 0 1),lC,(kK lU (pv 0) (pv 1))⟩))))),?_⟩;refine⟨_,Z,_,Z,r,s',_,_,Z,ha,hb,by rw[aa,aa,e],?_⟩;refine⟨_,Z,_,Z,r,s',Z,⟨_,ha⟩,⟨_,hb⟩,?_⟩;have pl:=Ld.qO e;refine xQ (K:=K) (xs:=a.map zaa) (ys:=b.map zaa) (by rw[aa,aa,e]) (fun i rs H2=>kD H H2/\rs=((Ld.plus a b).take i).map zaa) ⟨kD.refl H,ke⟩ (fun i rs H2 _ z=>⟨z.1.seq ha,z.1.seq hb⟩)
  (fun i rs H2 hi z=>by rw[aa] at hi;rw[z.2];simp only[List.length_map,List.length_take];exact nQ kg) ?_ ?_
 .rintro i x y rs H2 p hx hy ⟨sm,rfl⟩ hp;obtain⟨u,rfl,hu⟩:=int_at hx;obtain⟨v,rfl,hv⟩:=int_at hy;refine⟨p,_,Z,lX.of ko,Z,_,_,Z,_,_,Z,Z,?_⟩;refine⟨_,Z,_,Z,_,_,Z,Z,ku sm hp,?_⟩;rw[oq (v:=u+v)];unfold Ld.plus;rw[cm,hu,hv]
 .rintro rs H2 ⟨sm,rfl⟩ D hD;rw[oP (by rw[pl,aa])];exact q D _ (ku sm hD) (sm.free hD) ko
inductive Ix (K:zdg)(vs:List V)(H:Hp)(Q:VK)(_:XK):Prop
 | mk (r:Addr)(a:List Int)(m:Int)(_:vs=[.ref r,.int m])(_:kR K H r (a.map zaa))(_:a.length<=420)(_:∀x∈a,IntMulOk x m)(_:∀t H',kD H H'->H t=none->H' t=some (.lst ((zal a m).map zaa))->Q (.ref t) H')
theorem yT (T:Txt K mg CF cN):Df P w K mg base 1 "scaled" ["load","many"] (Ix K):=by
 refine mf T.d_scaled FD fun f cdv A outer s H vs Q E hr nd h=>?_;obtain⟨r,a,m,rfl,ha,hz,hm,q⟩:=h;refine⟨_,(ky (kM (om [("many",1)] ["weight"] (lG (pv 0)) (fun C s H fp=>⟨(oM 1),lC,(kK lL (pv 1) (pv 0))⟩)))),?_⟩;refine⟨_,Z,r,Z,⟨_,ha⟩,?_⟩;refine pV (K:=K) (xs:=a.map zaa) (fun i rs H2=>H2=H/\rs=((zal a m).take i).map zaa) ⟨Z,ke⟩ (fun i rs H2 _ z=>by rw[z.1];exact ha)
  (fun i rs H2 hi z=>by rw[aa] at hi;rw[z.2];simp only[List.length_map,List.length_take];exact nQ kg) ?_ ?_
 .rintro i x rs H2 hx ⟨rfl,rfl⟩;obtain⟨u,rfl,hu⟩:=int_at hx;refine⟨_,Z,_,Z,_,_,Z,Z,hm u (ah hu),Z,?_⟩;rw[oq (v:=u*m)];unfold zal;rw[af,hu];rfl
 .rintro rs H2 ⟨rfl,rfl⟩ D hD;rw[oP (by rw[Ld.tQ,aa])];exact q D _ (ku (kD.refl _) hD) hD ko
inductive KG (vs:List V)(H:Hp)(Q:VK)(_:XK):Prop
 | mk (r:Addr)(n:Nat)(è:List (Int×Int×Int))(ps:List (Int×Int))(_:vs=[.int n,.ref r])(_:1<=n)(_:n<=420)(_:An H r è)(_:zav n ps)(_:∀x∈è,x.1∈ps.map Prod.fst/\0<=x.2.1/\x.2.1<n)(_:∀t H' b,kD H H'->H t=none->H' t=some (.lst (b.map zaa))->b.length=n->(∀x,zae b x=zbn n è x)->Q (.ref t) H')
theorem Bc (T:Txt K mg CF cN):Df P w K mg base 1 "_law_laid" ["n","rows"] KG:=by
 refine mf T.d_law_laid B2 fun f cdv A outer s H vs Q E hr nd h=>?_;obtain⟨r,n,è,ps,rfl,n1,n2,tr,hp,rok,q⟩:=h;refine⟨_,(kh (kU 2 nd (kK pJ (mF (lJ ks)) (pv 0))) (kh (mD aJ Z (lG (pv 1)) (nI Z (kX (mT 3 nd) (kX (mT 4 nd) (kX (mT 5 nd) mS)))) (ky (mD aJ Z (nM kf T.b_range (lJ (pv 3))) (mT 6 nd) (kh (kU 7 nd (kK lO (kK lU (pv 4) (kK lL (pv 6) (kK lE (pv 0) (pv 3)))) (pv 0))) (ky (pY (kK lU (k7 lP (pv 2) (pv 7)) (pv 5)) (pZ (pv 2) (pv 7) set_list))))))) (ky (kM (pv 2))))),?_⟩;refine⟨kC,fun l hl=>⟨_,Z,l,_,_,Z,Z,ko,kg,kg,(by show 1*_<=_;exact n5 kg),fun du MS=>?_⟩⟩;rw[rep0];have Tj:l≠du:=kP ko MS;have JY:H du=none:=by rwa [kO (cM Tj)] at MS
 have rL:kD H (upd (upd H l (.lst [zaa 0])) du (.lst ((List.replicate n (0:Int)).map zaa))):=lI (lI (kD.refl H) hl) JY;have MT:upd (upd H l (.lst [zaa 0])) du (.lst ((List.replicate n (0:Int)).map zaa)) du=some (.lst ((List.replicate n (0:Int)).map zaa)):=ko;generalize upd (upd H l (.lst [zaa 0])) du (.lst ((List.replicate n (0:Int)).map zaa))=H0 at rL MT ⊢;obtain⟨rs,Te,Tg⟩:=tr;have rl:=fJ Tg;refine⟨_,Z,r,Z,⟨_,rL.seq (kR.of (K:=K) Te)⟩,?_⟩;refine nu (xs:=rs.map zac) (fun i σ H4=>kD H H4/\∃(b:List Int)(o1 o2 o3 o4 o5:Option V),σ=[some (.int n),some (.ref r),some (.ref du),o1,o2,o3,o4,o5]/\H4 du=some (.lst (b.map zaa))/\b.length=n/\∀x,zae b x=zbn n (è.take i) x)
  ⟨rL,List.replicate n 0,none,none,none,none,none,Z,MT,ke,fun x=>by rw[List.take_zero,Ld.Ih];unfold zbn;simp⟩ (fun i σ H4 _ z=>z.1.seq (kR.of Te)) ?_ ?_
 .rintro i x σ H4 hx ⟨nJ,b,o1,o2,o3,o4,o5,rfl,hb,lb,inv⟩;obtain⟨ad,rfl,ea⟩:=pI hx;obtain⟨⟨p,ë,à⟩,ep,ha⟩:=mj Tg ea;obtain⟨c,h0,hn⟩:=rok _ (List.mem_of_getElem? ep);dsimp only at c h0 hn;obtain⟨y,hy,ey⟩:=List.mem_map.mp c;have pd:p∣(n:Int):=by rw[<-ey];exact((zdd hp y).mp hy).2.1
  have p2:2<=p:=by rw[<-ey];exact(hp.row y hy).pr.1
  have pn:=aW J pd;obtain⟨st,Cp,E9,JH,_⟩:=Rg.zL n1 p2 pd;refine⟨ad,_,Z,lX.of (nJ _ _ ha),Z,_,_,Z,_,_,Z,_,_,Z,Z,?_⟩;refine⟨_,Z,_,Z,J,J,?_⟩;refine rF (fun k σ H5=>kD H H5/\∃(b':List Int)(o4 o5:Option V),σ=[some (.int n),some (.ref r),some (.ref du),some (.int p),some (.int ë),some (.int à),o4,o5]/\H5 du=some (.lst (b'.map zaa))/\b'.length=n /\
    ∀x:Int,zae b' x=zae b x+(if (x-ë)%st=0/\((x-ë)%n)/st<(k:Int) then à else 0))
   ⟨nJ,b,_,_,Z,hb,lb,Rg.XQ J E9 ë à b⟩ ?_ ?_
  .rintro k σ H5 hk ⟨ol,b',o4,o5,rfl,Pp,PU,O7⟩;have kp:(k:Int)<p:=J;refine⟨_,Z,_,Z,_,Z,_,Z,_,_,Z,Z,lR J J,_,_,Z,Z,oV J J,_,_,Z,Z,_,Z,_,_,Z,Z,(show (0:Int)<n by lia),?_⟩;dsimp only;rw[Cp];refine⟨_,Z,_,Z,du,_,_,_,Z,Z,kR.of Pp,EA PU J _,_,Z,_,_,Z,Z,_,Z,_,Z,du,_,_,_,Z,Z,Pp,At (xk PU) J _,?_⟩;rw[set_int];exact⟨lI ol JY,_,_,_,Z,ko,by rw[cq,PU],Rg.U4 E9 JH J PU O7⟩
  .rintro σ H5 ⟨ol,b',o4,o5,rfl,Pp,PU,O7⟩;refine⟨ol,b',_,_,_,_,_,Z,Pp,PU,fun x=>?_⟩;rw[Rg.VC E9 (show 0<p.toNat by lia) JH O7,inv,zba ep,Rg.BI];unfold zbc;rw[Cp]
 .rintro σ H4 ⟨nJ,b,o1,o2,o3,o4,o5,rfl,hb,lb,inv⟩;rw[aa,rl,bY] at inv;exact⟨_,Z,q du H4 b nJ JY hb lb inv⟩
inductive V8 (K:zdg)(vs:List V)(H:Hp)(Q:VK)(_:XK):Prop
 | mk (r s:Addr)(a:List Int)(n:Nat)(ps:List (Int×Int))(l:List ((Int×Int)×Int))(_:vs=[.ref r,.ref s])(_:kR K H r (a.map zaa))(_:a.length=n)(_:1<=n)(_:n<=420)(_:zcd n ps l)(_:H s=some (.lst ((zaz n l).map zaa)))(_:∀t H',kD H H'->H t=none->H' t=some (.lst ((zbl n l a).map zaa))->Q (.ref t) H')
theorem uC (T:Txt K mg CF cN):Df P w K mg base 7 "kept_rest" ["load","holes"] (V8 K):=by
 refine mf T.d_kept_rest zO fun f cdv A outer s H vs Q E hr nd h=>?_;obtain⟨r,s',a,n,ps,l,rfl,ha,la,n1,n2,qx,hs,q⟩:=h;refine⟨_,(kh (kU 2 nd (k7 kT (kW (Ev T) hr (lJ (pv 0))) ks)) (ky (kM (om [("left",2)] ["hole"] (lG (pv 1)) (fun C s H fp=>⟨(oM 1),lC,(k7 (qj (K:=K) Z) (pv 0) (pv 1))⟩))))),?_⟩;refine⟨_,Z,r,a,n,Z,ha,la,n1,n2,fun t le ro H1 b YN l' è mQ ft fl fr ht hb lb LV bv _ _=>?_⟩;have f0:m9 [zac le,zac ro] 0=some (.ref le):=Z;refine⟨t,_,_,_,Z,Z,lX.of ht,f0,?_⟩;have O6:∀x,zae b x=Rt.R n l (zae a) x:=fun x=>by rw[bv,LV.one qx]
 refine⟨_,Z,s',Z,⟨_,kR.of (mQ _ _ hs)⟩,?_⟩;refine mP (K:=K) (xs:=(zaz n l).map zaa) (zbl n l a) (by rw[Ct.tZ,aa]) (by rw[aa];have:=zdb n l;lia) (kR.of (mQ _ _ hs)) ?_ ?_
 .intro i x H2 hx mX R kk;obtain⟨hv,rfl,eh⟩:=int_at hx;have km:=(Rt.wm.mp (ah eh)).1;exact⟨_,Z,_,Z,le,_,_,_,Z,Z,kR.of (mX _ _ hb),AX km.1 J,kk _ _ (kD.refl _) (by unfold zbl;rw[List.getElem?_map,eh,O6];rfl)⟩
 intro c H2 mX fc h2;exact q c H2 (mQ.trans mX) (mQ.free fc) h2
inductive WF (vs:List V)(H:Hp)(Q:VK)(_:XK):Prop
 | mk (s wt:Addr)(W:List Int)(n M:Nat)(ps:List (Int×Int))(l:List ((Int×Int)×Int))(_:vs=[.int n,.ref s,.ref wt])(_:1<=n)(_:n<=60)(_:zcd n ps l)(_:H s=some (.lst ((zaz n l).map zaa)))(_:H wt=some (.lst (W.map zaa)))(_:W.length=(zaz n l).length)(_:Bd M W)(_:∀t H' AW,kD H H'->H' t=some (.lst (AW.map zaa))->AW.length=n->Bd (M+6) AW->(∀k:Nat,k<n->zae AW k=Ct.aw n l W (zaz n l).length k)->Q (.ref t) H')
theorem vt (T:Txt K mg CF cN):Df P w K mg base 8 "all_weighings" ["n","holes","weights"] WF:=by
 refine mf T.d_all_weighings uQ fun f cdv A outer s H vs Q E hr nd h=>?_;obtain⟨s',wt,W,n,M,ps,l,rfl,n1,n2,qx,hs,hw,lW,bW,q⟩:=h;refine⟨_,(kh (kU 3 nd (kK pJ (mF (lJ ks)) (pv 0))) (kh (mD aJ Z (pH kf T.b_zip (kZ (pv 1) (pv 2))) (nI Z (kX (mT 4 nd) (kX (mT 5 nd) mS))) (ky (kU 3 nd (kW (KJ T) hr (kZ (pv 3) (kW (yT T) hr (kZ (kW (vK T) hr (kZ (pv 0) (pv 4))) (pv 5)))))))) (ky (kM (pv 3))))),?_⟩;refine⟨kC,fun lo zD=>⟨_,Z,lo,_,_,Z,Z,ko,J,J,ziV,fun p hp=>?_⟩⟩;rw[rep0];have PF:kD H (upd (upd H lo (.lst [zaa 0])) p (.lst ((List.replicate n (0:Int)).map zaa))):=ku (ku (kD.refl _) zD) hp;have hP:upd (upd H lo (.lst [zaa 0])) p (.lst ((List.replicate n (0:Int)).map zaa)) p=some (.lst ((List.replicate n (0:Int)).map zaa)):=ko;generalize upd (upd H lo (.lst [zaa 0])) p (.lst ((List.replicate n (0:Int)).map zaa))=H0 at PF hP ⊢;refine⟨_,Z,_,Z,s',wt,Z,⟨_,kR.of (PF _ _ hs)⟩,⟨_,kR.of (PF _ _ hw)⟩,wA (K:=K) (xs:=(zaz n l).map zaa) (ys:=W.map zaa) (by rw[aa,aa,lW]) (fun i σ H2=>kD H H2/\∃(oc:Addr)(AW:List Int)(o1 o2:Option V),σ=[some (.int n),some (.ref s'),some (.ref wt),some (.ref oc),o1,o2]/\H2 oc=some (.lst (AW.map zaa))/\AW.length=n/\∀k:Nat,k<n->zae AW k=Ct.aw n l W i k) ⟨PF,p,_,none,none,Z,hP,aQ,fun k hk=>zch (by rw[fX,aB hk];rfl)⟩ (fun i σ H2 _ z=>⟨z.1.seq (kR.of hs),z.1.seq (kR.of hw)⟩) ?_ ?_⟩
 .rintro i x y σ H2 pr hx hy ⟨sm,oc,AW,o1,o2,rfl,ho,lA,ev⟩ hpr;obtain⟨hv,rfl,eh⟩:=int_at hx;obtain⟨c,rfl,ec⟩:=int_at hy;have kp:=(Rt.wm.mp (ah eh)).2;refine⟨pr,_,Z,lX.of ko,Z,_,_,Z,_,_,Z,Z,?_⟩;have mJ:kD H2 (upd H2 pr (.tup [.int hv,.int c])):=ku (kD.refl _) hpr;generalize upd H2 pr (.tup [.int hv,.int c])=H3 at mJ ⊢;refine⟨_,Z,_,Z,_,Z,n,hv,ps,l,Z,n1,J,qx,kp,fun tw H4 V4 nJ f4 h4 lV vv=>?_⟩;refine⟨_,Z,tw,V4,c,Z,kR.of h4,J,fun x hx=>?_,fun ts H5 ol f5 h5=>?_⟩
  .obtain⟨k,hk,e⟩:=List.getElem_of_mem hx;have e2:zae V4 k=x:=zch (by rw[<-e];exact az hk);have:=vv k J;rw[e2] at this;rcases Rt.ww l hv k with z | z | z<;>exact Bq J J
  have smo:=(mJ.trans nJ).trans ol;have lS:(zal V4 c).length=n:=by unfold zal;rw[List.length_map];exact lV
  refine⟨oc,ts,AW,zal V4 c,Z,kR.of (smo _ _ ho),kR.of h5,by rw[lA,lS],J,fun to H6 rh f6 h6=>?_⟩;refine⟨(sm.trans smo).trans rh,to,_,_,_,Z,h6,by rw[Ld.qO (by rw[lA,lS])];exact lA,fun k hk=>?_⟩;rw[Ld.zM (by rw[lA,lS]) J,Ld.FX J,ev k hk,vv k hk];show _=Ct.aw n l W i k+Rt.V l (zai (zaz n l) (i:Int).toNat) k*zai W (i:Int).toNat
  rw[ae,zbk eh,zbk ec]
 .rintro σ H2 ⟨sm,oc,AW,o1,o2,rfl,ho,lA,ev⟩;rw[aa] at ev;refine⟨_,Z,q oc H2 AW sm ho lA (fun x hx=>?_) ev⟩;obtain⟨k,hk,e⟩:=List.getElem_of_mem hx;have e2:zae AW k=x:=zch (by rw[<-e];exact az hk);rw[<-e2,ev k J];have kl:=zdb n l;exact Ct.Qd J (fun c hc=>bW _ (zbd (by rw[lW];exact hc))) _
structure Rco (n w C Cg:Nat):Prop where
 C1:1<=C
 CC:C<=Cg
 CN:Cg<2^9000
 num:∀k,k<=n->k<=w->∃B G,Nk k C Cg 9000 B G
 big:∀k,k<=n->k<=w->(2*(k*C)+1)^k*((k+1)*(zaw k Cg*Cg))<zcu Pq.S
theorem Dg {n w C Cg K0:Nat}(C1:1<=C)(CC:C<=Cg)(h:(List.range K0).all (fun k=>Rx.Tz k C Cg)=true)(K1:0<K0)(le:∀k,k<=n->k<=w->k<K0):Rco n w C Cg:=by
 have ck:∀k,k<K0->Rx.Tz k C Cg=true:=fun k hk=>dL.mp h k (eD.mpr hk);have sp:∀k,k<K0->128*(zbt k C Cg*zbt k C Cg)*(128*(zbt k C Cg*zbt k C Cg))*2^480<=2^9000/\zca k C Cg<2^9000/\Rx.gD k C*((k+1)*(zaw k Cg*Cg))<zcu Pq.S:=fun k hk=>by
  have c:=ck k hk;unfold Rx.Tz at c;rw[fL,fL] at c;exact⟨hE c.1.1,hE c.1.2,hE c.2⟩
 refine⟨C1,CC,cf (show Cg<=zca 0 C Cg by unfold zca;exact Nat.le_add_left ..) (sp 0 K1).2.1,fun k a b=>⟨zbt k C Cg,zca k C Cg,?_,?_,?_,?_,(sp k (le k a b)).1,(sp k (le k a b)).2.1,?_,?_⟩,fun k a b=>(sp k (le k a b)).2.2⟩
 .show Rx.gD k C<=zbt k C Cg
  unfold zbt;exact Nat.le_trans (Nat.le_add_left ..) (Nat.le_add_right ..)
 .show Rx.gD k C<=zca k C Cg
  unfold zca;exact Nat.le_trans (Nat.le_add_right ..) (Nat.le_add_right ..)
 .show k*(Rx.gD k C*(zaw k C*zca k C Cg))<=zbt k C Cg
  unfold zbt;exact Nat.le_trans (Nat.le_add_right ..) (Nat.le_add_right ..)
 .unfold zbt;exact Nat.le_add_left ..
 .unfold zca;exact Nat.le_trans (Nat.le_add_left ..) (Nat.le_add_right ..)
 .unfold zca;exact Nat.le_add_left ..
inductive Nl (K:zdg)(C:Addr)(vs:List V)(H:Hp)(Q:VK)(E:XK):Prop
 | mk (a b:Addr)(xs ys:List V)(_:vs=[.ref a,.ref b])(_:kR K H a xs)(_:kR K H b ys)(_:(xs.length=ys.length/\Q .non H)\/(¬xs.length=ys.length/\E (.ref C) none H))
theorem yl (T:Txt K mg CF cN):Dx P w K mg base 1 "check_fit" ["one","other"] (Nl K (cN 1)):=by
 refine T.d_check_fit.ZX rJ (fun vs H Q E h=>?_) (fun f cdv A outer s H vs Q E hr h=>?_)
 .obtain⟨_,_,_,_,rfl,_⟩:=h;rfl
 obtain⟨a,b,xs,ys,rfl,ha,hb,qq⟩:=h;have nd:=rJ.nd;refine⟨_,(ky (mh (mC oN (oG T.b_len (pv 0)) (oG T.b_len (pv 1))) (ky (Bm Z Z Bl T.c_NoFit T.x_NoFit iN kf (lJ mR))) k9)),?_⟩;refine⟨_,Z,a,_,Z,.inl ha,_,Z,b,_,Z,.inl hb,Z,_,Z,?_⟩;rcases qq with ⟨e,q⟩ | ⟨e,q⟩
 .exact nw (fun c=>absurd e (fun z=>Mr c (cU (fun n:Nat=>(n:Int)) z))) (fun c=>q)
 .exact nw (fun c=>⟨O,q⟩) (fun c=>absurd (FA c) (fun z=>e J))
inductive QD (C:Addr)(vs:List V)(H:Hp)(Q:VK)(_:XK):Prop
 | mk (r s:Addr)(a:List Int)(bs:List (List Int))(n C0 Cg:Nat)(ps:List (Int×Int))(l:List ((Int×Int)×Int))(_:vs=[.ref r,.ref s])(_:H r=some (.lst (a.map zaa)))(_:mL H s bs)(_:a.length=n)(_:∀b∈bs,b.length=n)(_:1<=n)(_:n<=60)(_:bs.length<=400)(_:zcd n ps l)(_:Rco bs.length (zaz n l).length C0 Cg)(_:∀b∈bs,∀z∈zbl n l b,z.natAbs<=C0)(_:∀z∈zbl n l a,z.natAbs<=Cg)(_:∀t ct H' cs,kD H H'->H' t=some (.tup [.str "way",.ref ct])->H' ct=some (.lst (cs.map zaa))->cs.length=bs.length->Bd 40000 cs->zcm (zaz n l).length (bs.map (zbl n l)) (zal (zbl n l a) (-1)) cs->Q (.ref t) H')(_:∀t wt H' AW W s0,kD H H'->H' t=some (.tup [.str "bar",.ref wt,.int s0])->H' wt=some (.lst (AW.map zaa))->AW.length=n->0<=s0->Bd 9007 AW->W.length=(zaz n l).length->(∀k:Nat,k<n->zae AW k=Ct.aw n l W (zaz n l).length k)->zcc (bs.map (zbl n l)) (zal (zbl n l a) (-1)) W s0->Q (.ref t) H')
def M0 (C CN CW:Addr):Sp:=fun vs H Q E=>(∃(r s:Addr)(a:List Int)(bs:List (List Int)),vs=[.ref r,.ref s]/\H r=some (.lst (a.map zaa))/\mL H s bs/\bs.length<=400/\(((∃b∈bs,b.length≠a.length)/\E (.ref CN) none H)\/((∀b∈bs,b.length=a.length)/\60<a.length/\E (.ref CW) none H)))\/QD C vs H Q E
theorem tO (T:Txt K mg CF cN):Dx P w K mg base 13 "counter" ["load","blocks"] (M0 CF (cN 1) (cN 2)):=by
 refine T.d_counter.ZX xM (fun vs H Q E h=>?_) (fun f cdv A outer s H vs Q E hr h=>?_)
 .rcases h with ⟨_,_,_,_,rfl,_⟩ | ⟨_,_,_,_,_,_,_,_,_,rfl,_⟩<;>rfl
 obtain⟨r,s',rfl⟩:∃r s',vs=[zac r,zac s']:=by
  rcases h with ⟨_,_,_,_,rfl,_⟩ | ⟨_,_,_,_,_,_,_,_,_,rfl,_⟩<;>exact⟨_,_,rfl⟩
 have nd:=xM.nd;refine⟨_,(kh (mD DL Z (lG (pv 1)) (mT 2 nd) (ky (oy (L3 (J7 (fun _ _ h=>h)) (yl T) (hr.mono O) kf (kZ (pv 0) (pv 2)))))) (kh (kU 3 nd (oG T.b_len (pv 0))) (kh (mh (mC tI (pv 3) (lY (v:=.int 60) kf T.g_MOST_HOLES_COUNTERED ⟨_,Z⟩)) (ky (Bm Z Z Bl T.c_TooWide T.x_TooWide iN kf (lJ (J2 (lY (v:=.int 60) kf T.g_MOST_HOLES_COUNTERED ⟨_,Z⟩) kd kd kd kd)))) k9) (kh (kU 4 nd (kW (KZ T) hr (lJ (pv 3)))) (kh (kU 5 nd (kW (HJ T) hr (kZ (om [("holes",4)] ["block"] (lG (pv 1)) (fun C s H fp=>⟨(oM 1),lC,(kW (uC T) hr (kZ (pv 1) (pv 0)))⟩)) (kW (yT T) hr (kZ (kW (uC T) hr (kZ (pv 0) (pv 4))) (sG p7 ks)))))) (kh (mh (mC nR (k7 kT (pv 5) ks) mR) (ky (kM (pv 5))) k9) (ky (kM (mE (ki mR (ki (kW (vt T) hr (ki (pv 3) (ki (pv 4) (ki (k7 kT (pv 5) ks) kS)))) (ki (k7 kT (pv 5) ks) kS)))))))))))),?_⟩;rw[show start ["load","blocks","block","n","holes","told"] [zac r,zac s']=[some (.ref r),some (.ref s'),none,none,none,none] from Z];rcases h with ⟨_,_,a,bs,e,ha,hB,b4,hh⟩ | ⟨_,_,a,bs,n,C0,Cg,ps,l,e,ha,hB,la,lb,n1,n2,b4,qx,rc,bC,bG,qw,qb⟩
 .cases e;obtain⟨as,h1,pa⟩:=id hB;have lp:=kQ pa;refine⟨_,Z,s',Z,⟨_,kR.of h1⟩,nu (K:=K) (xs:=as.map zac) (fun i σ H2=>H2=H/\(∀k,k<i->(bs.getD k []).length=a.length)/\∃o:Option V,σ=[some (.ref r),some (.ref s'),o,none,none,none]) ⟨Z,fun k hk=>absurd hk (bx _),none,Z⟩ (fun i σ H2 _ z=>by rw[z.1];exact kR.of h1) ?_ ?_⟩
  .rintro i x σ H2 hx ⟨rfl,al,o,rfl⟩;obtain⟨b,row,rfl,hb,mI,LR⟩:=nF pa hx;refine⟨_,Z,_,Z,r,b,_,_,Z,kR.of ha,kR.of LR,?_⟩
   by_cases c:row.length=a.length
   .refine .inl ⟨by rw[aa,aa,c],Z,fun k hk=>?_,_,Z⟩;rcases Nat.lt_or_ge k i with z | z
    .exact al k z
    .rw[show k=i by lia,zbx mI];exact c
   .rcases hh with ⟨_,qe⟩ | ⟨al',_⟩
    .exact .inr ⟨by rw[aa,aa];exact fun z=>c z.symm,qe⟩
    .exact absurd (al' row (ah mI)) c
  rintro σ H2 ⟨rfl,al,o,rfl⟩;rw[aa,lp] at al;rcases hh with ⟨⟨b,hb,ne⟩,_⟩ | ⟨_,wide,qe⟩
  .obtain⟨k,hk,e⟩:=List.getElem_of_mem hb;have:=al k hk;rw[zbx (az hk),e] at this;exact absurd this ne
  refine⟨_,Z,r,_,Z,.inl (kR.of ha),?_⟩;rw[aa]
  try dsimp only[mM,qK,qL]
  refine⟨_,Z,_,_,Z,Z,_,Z,qM (by simp;lia) ?_⟩;exact⟨O,qe⟩
 cases e;obtain⟨as,h1,pa⟩:=id hB;have lp:=kQ pa;refine⟨_,Z,s',Z,⟨_,kR.of h1⟩,nu (K:=K) (xs:=as.map zac) (fun i σ H2=>H2=H/\∃o:Option V,σ=[some (.ref r),some (.ref s'),o,none,none,none]) ⟨Z,none,Z⟩ (fun i σ H2 _ z=>by rw[z.1];exact kR.of h1) ?_ ?_⟩
 .rintro i x σ H2 hx ⟨rfl,o,rfl⟩;obtain⟨b,row,rfl,hb,mI,hh⟩:=nF pa hx;exact⟨_,Z,_,Z,r,b,_,_,Z,kR.of ha,kR.of hh,.inl ⟨by rw[aa,aa,la,lb row (ah mI)],Z,_,Z⟩⟩
 rintro σ H2 ⟨rfl,o,rfl⟩;refine⟨_,Z,r,_,Z,.inl (kR.of ha),?_⟩;rw[aa,la]
 try dsimp only[mM,qK,qL]
 refine⟨_,Z,_,_,Z,Z,_,Z,nq (by simp;lia) ?_⟩;refine⟨_,Z,n,ps,l,Z,n1,J,qx,fun ho H1 mQ Zw=>?_⟩
 try dsimp only[mM,qK,qL]
 refine⟨_,Z,s',Z,⟨_,kR.of (mQ _ _ h1)⟩,?_⟩;refine p9 (K:=K) (xs:=as.map zac) (bs.map (zbl n l)) (by rw[aa,aa,lp]) ziU (kR.of (mQ _ _ h1)) ?_ ?_
 .intro i x H3 hx mJ R kk;obtain⟨b,row,rfl,hb,mI,hh⟩:=nF pa hx;refine⟨_,Z,_,Z,b,ho,row,n,ps,l,Z,kR.of (mJ _ _ (mQ _ _ hh)),lb row (ah mI),n1,J,qx,mJ _ _ Zw,fun t H4 nJ _ h4=>kk H4 t _ nJ (by rw[af,mI];rfl) h4⟩
 intro st H3 mJ _ ub;have yc:=mQ.trans mJ;refine⟨_,Z,_,Z,r,ho,a,n,ps,l,Z,kR.of (yc _ _ ha),la,n1,J,qx,mJ _ _ Zw,fun kl H4 nJ _ h4=>?_⟩;have kln:=zdb n l;refine⟨_,Z,kl,_,-1,Z,kR.of h4,by rw[Ct.tZ];lia,fun x _=>IntMulOk.of_right (gF O O),fun gl H5 ol _ h5=>?_⟩;have JF:=nJ.trans ol;have lk:∀y∈bs.map (zbl n l),y.length=(zaz n l).length:=fun y hy=>by
  obtain⟨b,_,rfl⟩:=List.mem_map.mp hy;exact Ct.tZ
 refine⟨st,gl,bs.map (zbl n l),zal (zbl n l a) (-1),(zaz n l).length,9000,C0,Cg,Z,(ub.same nJ).same ol,h5,lk,by unfold zal;rw[List.length_map,Ct.tZ],J,by rw[List.length_map];lia,O,O,rc.C1,rc.CC,rc.CN,fun y hy z hz=>?_,fun z hz=>?_,by rw[List.length_map];exact rc.num,by rw[List.length_map];exact rc.big,fun t wt H6 W s0 rh PV hw6 lW s1 bW sh=>?_,fun t ct H6 cs rh PV hc6 lc bc sh=>?_⟩
 .obtain⟨b,hb,rfl⟩:=List.mem_map.mp hy;exact bC b hb z hz
 .unfold zal at hz;obtain⟨x,hx,rfl⟩:=List.mem_map.mp hz;have:=bG x hx;show (x * -1).natAbs<=Cg
  rw[jY,hZ];exact this
 .have Cm:=(yc.trans JF).trans rh;have Zx:=(mJ.trans JF).trans rh;have i0:m9 [zap "bar",zac wt,zaa s0] 0=some (.str "bar"):=Z;have i1:m9 [zap "bar",zac wt,zaa s0] 1=some (.ref wt):=Z;have i2:m9 [zap "bar",zac wt,zaa s0] 2=some (.int s0):=Z
  try dsimp only[mM,qK,qL]
  refine⟨_,Z,t,_,_,_,Z,Z,lX.of PV,i0,Z,_,Z,nq O ?_⟩;refine⟨_,Z,_,Z,_,Z,t,_,_,_,Z,Z,lX.of PV,i1,ho,wt,W,n,9001,ps,l,Z,n1,n2,qx,Zx _ _ Zw,hw6,lW,bW,fun aw H7 AW se h7 lA bA ev=>?_⟩;refine⟨_,Z,t,_,_,_,Z,Z,lX.of (se _ _ PV),i2,kY,fun tt qk=>?_⟩;have uP:=ku (o:=.tup [zap "bar",zac aw,zaa s0]) (kD.refl H7) qk;exact qb tt aw _ AW W s0 ((Cm.trans se).trans uP) ko (uP _ _ h7) lA s1 bA lW ev sh
 .have i0:m9 [zap "way",zac ct] 0=some (.str "way"):=Z
  try dsimp only[mM,qK,qL]
  refine⟨_,Z,t,_,_,_,Z,Z,lX.of PV,i0,Z,_,Z,qM O ?_⟩;exact⟨_,Z,qw t ct H6 cs ((yc.trans JF).trans rh) PV hc6 (by rw[lc,aa]) bc sh⟩
inductive Ky (vs:List V)(H:Hp)(Q:VK)(_:XK):Prop
 | mk (i:Int)(_:vs=[.int i])(_:Q (.bl true) H)
theorem rz (T:Txt K mg CF cN):Df P w K mg base 1 "_law_whole" ["found"] Ky:=by
 refine mf T.d_law_whole zV fun f cdv A outer s H vs Q E hr nd h=>?_;obtain⟨i,rfl,q⟩:=h;refine⟨_,(ky (kM (Ds (lH nU kf T.b_isinstance zbp (kZ (pv 0) (qA (v:=.ty "int") kf T.b_int L2.He kf))) (wE (GD (lH nU kf T.b_isinstance zbp (kZ (pv 0) (qA (v:=.ty "bool") kf T.b_bool L2.K9 kf)))))))),?_⟩;refine⟨_,Z,_,_,_,true,Z,.int i,qR _,true,Z,FV ?_⟩;exact⟨_,Z,_,_,_,false,Z,.int i,L2.Oa,false,Z,q⟩
inductive IQ (K:zdg)(vs:List V)(H:Hp)(Q:VK)(_:XK):Prop
 | mk (a:Addr)(ns:List Int)(k:Int)(_:vs=[.ref a,.int k])(_:kR K H a (ns.map zaa))(_:0<=k)(_:∀v:Int,Q (.int v) H)
theorem lQ (T:Txt K mg CF cN):Df P w K mg base 1 "_law_cell_at" ["script","k"] (IQ K):=by
 refine mf T.d_law_cell_at wH fun f cdv A outer s H vs Q E hr nd h=>?_;obtain⟨a,ns,k,rfl,hS,k0,q⟩:=h;refine⟨_,(kh (mh (mC A2 (pv 1) (oG T.b_len (pv 0))) (ky (kM (k7 lP (pv 0) (pv 1)))) k9) (ky (kM ks))),?_⟩;refine⟨_,Z,_,Z,a,_,Z,.inl hS,_,_,Z,Z,_,Z,?_⟩;refine nw (fun c=>?_) (fun c=>q 0);have hk:=dec c;rw[aa] at hk;obtain⟨v,hv,_⟩:=NS k0 hk;exact⟨_,Z,_,Z,a,_,_,_,Z,Z,hS,hv,q v⟩
inductive Nf (vs:List V)(H:Hp)(Q:VK)(_:XK):Prop
 | mk (r:Addr)(cs:List Int)(_:vs=[.ref r,.int cs.length])(_:H r=some (.lst (cs.map zaa)))(_:cs.length<=20000)(_:∀H',kD H H'->Q (.bl true) H')
theorem wD (T:Txt K mg CF cN):Df P w K mg base 2 "_law_numbers" ["found","many"] Nf:=by
 refine mf T.d_law_numbers xa fun f cdv A outer s H vs Q E hr nd h=>?_;obtain⟨r,cs,rfl,hl,Y0,q⟩:=h;refine⟨_,(kh (mh (PW.pt (pL (oW (oA (lH nU kf T.b_isinstance zbp (kZ (pv 0) (qA (v:=.ty "list") kf T.b_list zci kf))))) (rq (mC oN (oG T.b_len (pv 0)) (pv 1))))) (ky (kM qB)) k9) (ky (kM (lH (sP Z) kf T.b_all L2.AE (lJ (om [] ["one"] (lG (pv 0)) (fun C s H fp=>⟨(oM 0),lC,(kW (rz T) hr (lJ (pv 0)))⟩))))))),?_⟩;refine⟨_,Z,_,_,_,true,Z,.lst hl,qR _,true,Z,uK ?_⟩;refine⟨_,Z,r,_,Z,.inl (kR.of hl),_,Z,Z,_,Z,A6 (by rw[aa]) ?_⟩;refine⟨_,Z,r,Z,⟨_,kR.of hl⟩,?_⟩;refine pV (K:=K) (xs:=cs.map zaa) (fun i ys H2=>H2=H/\ys=(List.replicate i true).map zbv) ⟨Z,Z⟩ (fun i ys H2 _ z=>by rw[z.1];exact kR.of hl)
  (fun i ys H2 hi z=>by rw[aa] at hi;rw[z.2,aa,aQ];exact nQ J) ?_ ?_
 .rintro i x ys H2 hx ⟨rfl,rfl⟩;obtain⟨u,rfl,hu⟩:=int_at hx;refine⟨_,Z,u,Z,Z,?_⟩;rw[jt,aS];rfl
 .rintro ys H2 ⟨rfl,rfl⟩ D hD;refine⟨D,_,Z,kR.of ko,?_⟩;have e:((List.replicate (cs.map zaa).length true).all id)=true:=by rw[dL];intro b hb;rw[(e8.mp hb).2];rfl
  rw[e];exact q _ (ku (kD.refl _) hD)
inductive NU (K:zdg)(vs:List V)(H:Hp)(Q:VK)(_:XK):Prop
 | mk (r s:Addr)(a b:List Int)(N M:Nat)(_:vs=[.ref r,.ref s])(_:H r=some (.lst (a.map zaa)))(_:H s=some (.lst (b.map zaa)))(_:a.length=b.length)(_:Bd N a)(_:Bd M b)(_:N<=1000000)(_:M<=1000000)(_:∀H',kD H H'->Q (.int (zao a b)) H')
theorem wY (T:Txt K mg CF cN):Df P w K mg base 1 "_law_sum" ["row","weights"] (NU K):=by
 refine mf T.d_law_sum C7 fun f cdv A outer s H vs Q E hr nd h=>?_;obtain⟨r,s',a,b,N,M,rfl,h1,h2,l,ba,bb,N1,M1,q⟩:=h;refine⟨_,(kh (kU 2 nd ks) (kh (mD aJ Z (pH kf T.b_zip (kZ (pv 0) (pv 1))) (nI Z (kX (mT 3 nd) (kX (mT 4 nd) mS))) (ky (kU 2 nd (kK lU (pv 2) (kK lL (pv 3) (pv 4)))))) (ky (kM (pv 2))))),?_⟩;refine⟨_,Z,_,Z,r,s',Z,⟨_,kR.of h1⟩,⟨_,kR.of h2⟩,wA (K:=K) (xs:=a.map zaa) (ys:=b.map zaa) (by rw[aa,aa,l]) (fun i σ H2=>kD H H2/\∃o1 o2:Option V,σ=[some (.ref r),some (.ref s'),some (.int (zab i fun j=>zai a j.toNat*zai b j.toNat)),o1,o2]) ⟨kD.refl _,none,none,Z⟩ (fun i σ H2 _ z=>⟨z.1.seq (kR.of h1),z.1.seq (kR.of h2)⟩) ?_ ?_⟩
 .rintro i x y σ H2 p hx hy ⟨sm,o1,o2,rfl⟩ hp;obtain⟨u,rfl,hu⟩:=int_at hx;obtain⟨v,rfl,hv⟩:=int_at hy;refine⟨p,_,Z,lX.of ko,Z,_,_,Z,_,_,Z,Z,?_⟩;refine⟨_,Z,_,Z,_,Z,_,_,Z,Z,sX (ba u (ah hu)) (bb v (ah hv)) N1 M1,_,_,Z,Z,?_⟩;refine⟨ku sm hp,some (.int u),some (.int v),?_⟩;have e:(zab (i+1) fun j=>zai a j.toNat*zai b j.toNat)=(zab i fun j=>zai a j.toNat*zai b j.toNat)+u*v:=by
   show (zab i fun j=>zai a j.toNat*zai b j.toNat)+zai a (i:Int).toNat*zai b (i:Int).toNat=_
   rw[ae,zbk hu,zbk hv]
  rw[e];rfl
 .rintro σ H2 ⟨sm,o1,o2,rfl⟩;refine⟨_,Z,?_⟩;rw[aa,<-Rx.pE Z l.symm];exact q H2 sm
inductive UX (vs:List V)(H:Hp)(Q:VK)(_:XK):Prop
 | mk (n m:Int)(_:vs=[.int n,.int m])(_:0<=m)(_:m∣n->Q (.bl true) H)(_:¬m∣n->Q (.bl false) H)
theorem yX (T:Txt K mg CF cN):Df P w K mg base 1 "_law_by" ["number","modulus"] UX:=by
 refine mf T.d_law_by FP fun f cdv A outer s H vs Q E hr nd h=>?_;obtain⟨n,m,rfl,m0,q1,q2⟩:=h;have key:∀c:Bool,(c=true↔m∣n)->Q (.bl c) H:=fun c e=>by
  cases c with
  | true=>exact q1 (e.mp Z)
  | false=>exact q2 fun z=>by have:=e.mpr z;cases this
 refine⟨_,(kh (mh (mC nR (pv 1) ks) (ky (kM (nX nR (pv 0) ks (oO _)))) k9) (ky (kM (nX nR (kK lO (pv 0) (pv 1)) ks (oO _))))),?_⟩;refine⟨_,Z,Z,_,Z,nw (fun c=>?_) (fun c=>?_)⟩
 .have z:=vm c;subst z;refine⟨_,Z,Z,key _ ⟨fun h=>?_,fun h=>?_⟩⟩
  .rw[vm h];exact bq _
  .rw[gC.mp h];exact b5 Z
 .have z:=vC c;refine⟨_,Z,_,Z,_,_,Z,Z,(show 0<m by lia),Z,key _ ⟨fun h=>?_,fun h=>?_⟩⟩
  .exact bR (vm h)
  .have:n%m=0:=bS h;exact b5 (cU zaa this)
inductive IA (vs:List V)(H:Hp)(Q:VK)(_:XK):Prop
 | mk (r:Addr)(n:Nat)(è:List (Int×Int×Int))(ps:List (Int×Int))(_:vs=[.ref r,.int n])(_:1<=n)(_:n<=420)(_:An H r è)(_:zav n ps)(_:∀x∈è,x.1∈ps.map Prod.fst/\0<=x.2.1/\x.2.1<n)(_:∀H',kD H H'->Q (.bl true) H')
theorem xz (T:Txt K mg CF cN):Df P w K mg base 2 "_law_rows_of" ["found","n"] IA:=by
 refine mf T.d_law_rows_of wF fun f cdv A outer s H vs Q E hr nd h=>?_;obtain⟨r,n,è,ps,rfl,n1,n2,⟨as,h1,pa⟩,hp,ok,q⟩:=h;refine⟨_,(kh (mh (oW (oA (lH nU kf T.b_isinstance zbp (kZ (pv 0) (qA (v:=.ty "list") kf T.b_list zci kf))))) (ky (kM qB)) k9) (kh (mD aJ Z (lG (pv 0)) (mT 2 nd) (kh (mh (PW.pt (pL (oW (oA (lH nU kf T.b_isinstance zbp (kZ (pv 2) (qA (v:=.ty "tuple") kf T.b_tuple L2.xH kf))))) (pL (mC oN (oG T.b_len (pv 2)) ks) (rq (oW (oA (lH (sP Z) kf T.b_all L2.AE (lJ (om [] ["one"] (NK (pv 2)) (fun C s H fp=>⟨(oM 0),lC,(kW (rz T) hr (lJ (pv 0)))⟩)))))))))) (ky (kM qB)) k9) (ky (mh (PW.pt (pL (EM zI (k7 kT (pv 2) ks) (kW (tu T) hr (lJ (pv 1))) kf) (pL (mC A2 (k7 kT (pv 2) ks) ks) (rq (mC Ms (k7 kT (pv 2) ks) (pv 1)))))) (ky (kM qB)) k9)))) (ky (kM qB)))),?_⟩;refine⟨_,Z,_,_,_,true,Z,.lst h1,qR _,true,Z,uK ?_⟩;refine⟨_,Z,r,Z,⟨_,kR.of h1⟩,nu (K:=K) (xs:=as.map zac) (fun i σ H2=>kD H H2/\∃o:Option V,σ=[some (.ref r),some (.int n),o]) ⟨kD.refl _,none,Z⟩ (fun i σ H2 _ z=>z.1.seq (kR.of h1)) ?_ ?_⟩
 .rintro i x σ H2 hx ⟨sm,o,rfl⟩;obtain⟨a,rfl,ea⟩:=pI hx;obtain⟨⟨p,ë,à⟩,ht,hh⟩:=mj pa ea;have UL:=sm _ _ hh;obtain⟨k1,k2,k3⟩:=ok _ (List.mem_of_getElem? ht);have i0:m9 [zaa p,zaa ë,zaa à] 0=some (.int p):=Z;have i1:m9 [zaa p,zaa ë,zaa à] 1=some (.int ë):=Z;refine⟨_,Z,_,_,_,true,Z,.tup UL,qR _,true,Z,uK ?_⟩;refine⟨_,Z,a,_,Z,.inr (lX.of UL),Z,_,Z,nq (by show ¬(!decide (zaa 3=zaa 3))=true;simp) ?_⟩;refine⟨_,Z,a,Z,⟨_,lX.of UL⟩,?_⟩;refine Ig (K:=K) (xs:=[zaa p,zaa ë,zaa à]) (fun i ys H3=>H3=H2/\ys=(List.replicate i true).map zbv) ⟨Z,Z⟩ (fun i ys H3 _ z=>by rw[z.1];exact lX.of UL)
   (fun i ys H3 hi z=>by rw[z.2,aa,aQ];exact nQ (by have:i<3:=hi;lia)) ?_ ?_
  .rintro j y ys H3 hy ⟨rfl,rfl⟩;obtain⟨u,rfl,hu⟩:=int_at (ms:=[p,ë,à]) hy;refine⟨_,Z,u,Z,Z,?_⟩;rw[jt,aS];rfl
  .rintro ys H3 ⟨rfl,rfl⟩ D hD;refine⟨D,_,Z,kR.of ko,_,Z,nq (show ¬(!(List.replicate 3 true).all id)=true by decide) ?_⟩;have mJ:=ku (o:=.lst ((List.replicate 3 true).map zbv)) sm hD;have hh3:=mJ _ _ hh;refine⟨_,Z,a,_,_,_,Z,Z,lX.of hh3,i0,_,Z,n,Z,n1,n2,fun r1 H4 Gs nJ f4 h4 hp4=>?_⟩;have O3:=zdc hp4 hp;subst O3;refine⟨r1,_,Z,.inl (kR.of h4),Z,zh _,_,Z,nq (by rw[Bu,b5 k1];decide) ?_⟩;have JE:=mJ.trans nJ;refine⟨_,Z,a,_,_,_,Z,Z,lX.of (JE _ _ hh),i1,_,_,Z,Z,_,Z,nq (by simpa using k2) ?_⟩;refine⟨_,Z,a,_,_,_,Z,Z,lX.of (JE _ _ hh),i1,_,Z,_,_,Z,Z,_,Z,nq (by simpa using k3) ?_⟩;exact⟨JE,_,Z⟩
 .rintro σ H2 ⟨sm,o,rfl⟩;exact q H2 sm
inductive Qh (K:zdg)(vs:List V)(H:Hp)(Q:VK)(_:XK):Prop
 | mk (r:Addr)(a:List Int)(n:Nat)(ps:List (Int×Int))(l:List ((Int×Int)×Int))(_:vs=[.ref r])(_:H r=some (.lst (a.map zaa)))(_:a.length=n)(_:1<=n)(_:n<=420)(_:zcd n ps l)(_:Rt.Zn n l (zae a))(_:∀H',kD H H'->Q (.bl true) H')
theorem Bz (T:Txt K mg CF cN):Df P w K mg base 9 "_law_even" ["load"] (Qh K):=by
 refine mf T.d_law_even BO fun f cdv A outer s H vs Q E hr nd h=>?_;obtain⟨r,a,n,ps,l,rfl,ha,la,n1,n2,qx,zn,q⟩:=h;refine⟨_,(kh (kU 1 nd (kW (Hu T) hr (lJ (oE nY kf T.b_list zci (lJ (pv 0)))))) (kh (mh (PW.pt (pL (oW (oA (lH nU kf T.b_isinstance zbp (kZ (pv 1) (qA (v:=.ty "tuple") kf T.b_tuple L2.xH kf))))) (pL (mC oN (oG T.b_len (pv 1)) ks) (rq (mC oN (k7 kT (pv 1) ks) mR))))) (ky (kM qB)) k9) (ky (kM (Ds (kW (xz T) hr (kZ (k7 kT (pv 1) ks) (oG T.b_len (pv 0)))) (wE (nX (C5 (Hs hr)) (kW (Bc T) hr (kZ (oG T.b_len (pv 0)) (k7 kT (pv 1) ks))) (pv 0) (oO _)))))))),?_⟩;refine⟨_,Z,r,_,Z,.inl (kR.of ha),fun c hc=>?_⟩;have mQ:=ku (o:=.lst (a.map zaa)) (kD.refl H) hc;refine⟨c,a,n,ps,l,Z,kR.of ko,la,n1,n2,qx,fun _ t ro H2 è mX _ _ ht tr _ _ ok ev=>?_,fun no=>absurd zn no⟩;have Cm:=mQ.trans mX;have i0:m9 [zap "even",zac ro] 0=some (.str "even"):=Z;have i1:m9 [zap "even",zac ro] 1=some (.ref ro):=Z;have ok':∀x∈è,x.1∈ps.map Prod.fst/\0<=x.2.1/\x.2.1<n:=fun x hx=>⟨(ok x hx).1,(ok x hx).2.1,(ok x hx).2.2.1⟩
 try dsimp only[mM,qK,qL]
 refine⟨_,Z,_,_,_,true,Z,.tup ht,qR _,true,Z,uK ?_⟩;refine⟨_,Z,t,_,Z,.inr (lX.of ht),Z,_,Z,nq (by show ¬(!decide (zaa 2=zaa 2))=true;simp) ?_⟩;refine⟨_,Z,t,_,_,_,Z,Z,lX.of ht,i0,Z,_,Z,A6 Z ?_⟩;refine⟨_,Z,t,_,_,_,Z,Z,lX.of ht,i1,_,Z,r,_,Z,.inl (kR.of (Cm _ _ ha)),ro,n,è,ps,(by rw[xk la];rfl),n1,n2,tr,qx.hp,ok',fun H3 mJ=>?_⟩;refine⟨true,Z,FV ?_⟩;have MJ:=Cm.trans mJ;refine⟨_,Z,r,_,Z,.inl (kR.of (MJ _ _ ha)),_,Z,t,_,_,_,Z,Z,lX.of (mJ _ _ ht),i1,ro,n,è,ps,(by rw[xk la];rfl),n1,n2,tr.same mJ,qx.hp,ok',fun la4 H4 b nJ _ h4 lb bv=>?_⟩;have eb:b=a:=Ld.ext (by rw[lb,la]) fun x _=>by rw[bv x,ev x]
 refine⟨_,Z,IX (kR.of h4) (kR.of ((MJ.trans nJ) _ _ ha)) ?_⟩;rw[eb,b5 Z];exact q _ (MJ.trans nJ)
inductive NB (K:zdg)(vs:List V)(H:Hp)(Q:VK)(_:XK):Prop
 | mk (t r s wt:Addr)(a W:List Int)(bs:List (List Int))(s0:Int)(n N M:Nat)(ps:List (Int×Int))(_:vs=[.ref t,.ref r,.ref s])(_:H r=some (.lst (a.map zaa)))(_:mL H s bs)(_:a.length=n)(_:Bd N a)(_:∀y∈bs,y.length=n/\Bd N y)(_:1<=n)(_:n<=60)(_:N<=1000000)(_:M<=1000000)(_:zav n ps)(_:H t=some (.tup [.str "bar",.ref wt,.int s0]))(_:H wt=some (.lst (W.map zaa)))(_:W.length=n)(_:0<=s0)(_:Bd M W)(_:∀p st:Nat,((p:Nat):Int)∈ps.map Prod.fst->0<st->n=p*st->∀s:Int,0<=s->s<st->zab p (fun t=>zae W (s+t*st))=0)(_:∀b∈bs,s0∣zao b W)(_:¬s0∣zao a W)(_:∀H',kD H H'->Q (.bl true) H')
theorem CT (T:Txt K mg CF cN):Df P w K mg base 3 "_law_bar" ["found","load","blocks"] (NB K):=by
 refine mf T.d_law_bar Dr fun f cdv A outer s H vs Q E hr nd h=>?_;obtain⟨t,r,s',wt,a,W,bs,s0,n,N,M,ps,rfl,ha,hS,la,bA,lb,n1,n2,N1,M1,hp,ht,hw,lW,s1,bW,zr,dv,ndv,q⟩:=h;obtain⟨as,h1,pa⟩:=id hS;have lp:=kQ pa;have i0:m9 [zap "bar",zac wt,zaa s0] 0=some (.str "bar"):=Z;have i1:m9 [zap "bar",zac wt,zaa s0] 1=some (.ref wt):=Z;have i2:m9 [zap "bar",zac wt,zaa s0] 2=some (.int s0):=Z;have ne1:s0≠1:=fun z=>ndv (by rw[z];exact gn _);refine⟨_,(kh (kU 3 nd (oG T.b_len (pv 1))) (kh (mh (PW.pt (pL (oW (oA (lH nU kf T.b_isinstance zbp (kZ (pv 0) (qA (v:=.ty "tuple") kf T.b_tuple L2.xH kf))))) (pL (mC oN (oG T.b_len (pv 0)) ks) (rq (mC oN (k7 kT (pv 0) ks) mR))))) (ky (kM qB)) k9) (kh (mh (PW.pt (pL (oW (oA (kW (wD T) hr (kZ (k7 kT (pv 0) ks) (pv 3))))) (pL (oW (oA (kW (rz T) hr (lJ (k7 kT (pv 0) ks))))) (pL (mC A2 (k7 kT (pv 0) ks) ks) (rq (mC nR (k7 kT (pv 0) ks) ks)))))) (ky (kM qB)) k9) (kh (mD aJ Z (lG (kW (tu T) hr (lJ (pv 3)))) (mT 4 nd) (ky (mD aJ Z (nM kf T.b_range (lJ (kK lE (pv 3) (pv 4)))) (mT 5 nd) (ky (mh (mC oN (lH (yV Z) kf T.b_sum L2.GA (lJ (om [("found",0),("n",3),("hole",5),("p",4)] ["k"] (nM kf T.b_range (lJ (pv 4))) (fun C s H fp=>⟨(oM 4),lC,(k7 (qj (K:=K) Z) (k7 (uk (K:=K) Z) (pv 0) ks) (kK lO (kK lU (pv 2) (kK lL (pv 4) (kK lE (pv 1) (pv 3)))) (pv 1)))⟩)))) ks) (ky (kM qB)) k9))))) (kh (mD aJ Z (lG (pv 2)) (mT 6 nd) (ky (mh (oW (oA (kW (yX T) hr (kZ (kW (wY T) hr (kZ (pv 6) (k7 kT (pv 0) ks))) (k7 kT (pv 0) ks))))) (ky (kM qB)) k9))) (ky (kM (GD (kW (yX T) hr (kZ (kW (wY T) hr (kZ (pv 1) (k7 kT (pv 0) ks))) (k7 kT (pv 0) ks))))))))))),?_⟩;refine⟨_,Z,r,_,Z,.inl (kR.of ha),?_⟩;rw[aa,la]
 try dsimp only[mM,qK,qL]
 refine⟨_,Z,_,_,_,true,Z,.tup ht,qR _,true,Z,uK ?_⟩;refine⟨_,Z,t,_,Z,.inr (lX.of ht),Z,_,Z,nq (by show ¬(!decide (zaa 3=zaa 3))=true;simp) ?_⟩;refine⟨_,Z,t,_,_,_,Z,Z,lX.of ht,i0,Z,_,Z,A6 Z ?_⟩;refine⟨_,Z,t,_,_,_,Z,Z,lX.of ht,i1,_,Z,wt,W,(by rw[lW];rfl),hw,J,fun H1 mQ=>⟨_,Z,nq O ?_⟩⟩;refine⟨_,Z,t,_,_,_,Z,Z,lX.of (mQ _ _ ht),i2,s0,Z,⟨_,Z,nq O ?_⟩⟩;refine⟨_,Z,t,_,_,_,Z,Z,lX.of (mQ _ _ ht),i2,_,_,Z,Z,_,Z,nq (by simpa using s1) ?_⟩;refine⟨_,Z,t,_,_,_,Z,Z,lX.of (mQ _ _ ht),i2,Z,_,Z,nq (fun z=>ne1 (vm z)) ?_⟩;refine⟨_,Z,n,Z,n1,J,fun r1 H2 Gs mX f2 h2 OT=>⟨r1,Z,⟨_,kR.of h2⟩,?_⟩⟩;have O3:=zdc OT hp;subst O3;have ow:=mQ.trans mX;refine nu (xs:=(Gs.map Prod.fst).map zaa) (fun i σ H3=>kD H2 H3/\∃(o1 o2 o3:Option V),σ=[some (.ref t),some (.ref r),some (.ref s'),some (.int n),o1,o2,o3]) ⟨kD.refl _,none,none,none,Z⟩ (fun i σ H3 _ z=>z.1.seq (kR.of h2)) ?_ ?_
 .rintro i xv σ H3 hx ⟨mJ,o1,o2,o3,rfl⟩;obtain⟨p,rfl,ep⟩:=int_at hx;have pm:p∈Gs.map Prod.fst:=ah ep;obtain⟨y,hy,ey⟩:=List.mem_map.mp pm;have pd:p∣(n:Int):=by rw[<-ey];exact((zdd hp y).mp hy).2.1
  have p2:2<=p:=by rw[<-ey];exact(hp.row y hy).pr.1
  have pn:=aW J pd;obtain⟨st,Cp,E9,JH,_⟩:=Rg.zL n1 p2 pd;have stn:(st:Int)<=n:=by rw[<-Cp];exact b8 _ J
  refine⟨_,Z,_,Z,_,_,Z,Z,lR J J,st,cU (fun z=>[zaa z]) Cp,J,J,?_⟩;refine rF (n:=st) (fun j σ H4=>kD H2 H4/\∃(o2 o3:Option V),σ=[some (.ref t),some (.ref r),some (.ref s'),some (.int n),some (.int p),o2,o3]) ⟨mJ,_,_,Z⟩ ?_ ?_
  .rintro j σ H4 hj ⟨nJ,o2,o3,rfl⟩;have smW:=ow.trans nJ;have hW4:=smW _ _ hw;refine⟨_,Z,p.toNat,(by rw[bZ J]),J,J,?_⟩;refine Hk (lo:=0) (n:=p.toNat) ((List.range p.toNat).map fun (t:Nat)=>zae W ((j:Int)+(t:Int)*st)) (by rw[aa,gO]) J ?_ ?_
   .intro k H5 hk ol R kk;rw[dO];have bd:(j:Int)+(k:Int)*st<n:=by
     have a1:=aq (show (k:Int)<=p-1 by lia) (show 0<=(st:Int) by lia);have a2:(n:Int)=p*st:=by rw[JH,aP,bZ J]
     rw[cT] at a1;lia
    have bd0:0<=(k:Int)*st:=bI J J;have em:((j:Int)+(k:Int)*((n:Int)/p))%n=(j:Int)+(k:Int)*st:=by rw[Cp];exact aX J bd
    refine⟨_,Z,t,_,_,_,Z,Z,lX.of (ol _ _ (smW _ _ ht)),i1,_,Z,_,Z,_,Z,_,Z,_,_,Z,Z,lR J J,_,_,Z,Z,oV J J,_,_,Z,Z,_,Z,_,_,Z,Z,(show 0<(n:Int) by lia),?_⟩;dsimp only;rw[em];exact⟨wt,_,_,_,Z,Z,kR.of (ol _ _ hW4),AX J J,kk _ _ (kD.refl _) (by rw[af,dH hk];rfl)⟩
   .intro D H5 ol _ h5;refine⟨D,_,Z,kR.of h5,?_⟩;rw[Pl.Im (fun t=>zae W ((j:Int)+t*st)),zr p.toNat st (by rw[bZ J];exact pm) E9 JH j J J];exact⟨Z,_,Z,A6 Z ⟨nJ.trans ol,_,_,Z⟩⟩
  .rintro σ H4 ⟨nJ,o2,o3,rfl⟩;exact⟨nJ,_,_,_,Z⟩
 rintro σ H3 ⟨mJ,o1,o2,o3,rfl⟩;have yc:=ow.trans mJ;refine⟨_,Z,s',Z,⟨_,kR.of (yc _ _ h1)⟩,nu (K:=K) (xs:=as.map zac) (fun i σ H4=>kD H H4/\∃o4:Option V,σ=[some (.ref t),some (.ref r),some (.ref s'),some (.int n),o1,o2,o4]) ⟨yc,_,Z⟩ (fun i σ H4 _ z=>z.1.seq (kR.of h1)) ?_ ?_⟩
 .rintro i x σ H4 hx ⟨sm,o,rfl⟩;obtain⟨b,row,rfl,hb,mI,hh⟩:=nF pa hx;have rm:=ah mI;have rl:=lb row rm;refine⟨_,Z,_,Z,t,_,_,_,Z,Z,lX.of (sm _ _ ht),i1,b,wt,row,W,N,M,Z,sm _ _ hh,sm _ _ hw,by rw[rl.1,lW],rl.2,bW,N1,M1,fun H5 ol=>?_⟩;exact⟨_,Z,t,_,_,_,Z,Z,lX.of (ol _ _ (sm _ _ ht)),i2,zao row W,s0,Z,s1,fun _=>⟨_,Z,nq O ⟨sm.trans ol,_,Z⟩⟩,fun TB=>absurd (dv row rm) TB⟩
 .rintro σ H4 ⟨sm,o,rfl⟩;refine⟨_,Z,_,Z,t,_,_,_,Z,Z,lX.of (sm _ _ ht),i1,r,wt,a,W,N,M,Z,sm _ _ ha,sm _ _ hw,by rw[la,lW],bA,bW,N1,M1,fun H5 ol=>?_⟩;exact⟨_,Z,t,_,_,_,Z,Z,lX.of (ol _ _ (sm _ _ ht)),i2,zao a W,s0,Z,s1,fun d=>absurd d ndv,fun _=>⟨_,Z,q H5 (sm.trans ol)⟩⟩
def Vk (a:List Int)(bs:List (List Int))(v0 vf vw v:V):Prop:=((∃b∈bs,b.length≠a.length)/\v=vf)\/((∀b∈bs,b.length=a.length)/\60<a.length/\v=vw) \/
   ((∀b∈bs,b.length=a.length/\∀x∈b,x.natAbs<=9)/\1<=a.length/\a.length<=60/\bs.length<=9/\(∀x∈a,x.natAbs<=81*10^60)/\v=v0)
inductive GE (v0 vf vw:V)(vs:List V)(H:Hp)(Q:VK)(_:XK):Prop
 | mk (r s:Addr)(a:List Int)(bs:List (List Int))(v:V)(_:vs=[.ref r,.ref s])(_:H r=some (.lst (a.map zaa)))(_:mL H s bs)(_:bs.length<=400)(_:Vk a bs v0 vf vw v)(_:∀H',kD H H'->Q v H')
theorem sk (T:Txt K mg CF cN):Df P w K mg base 14 "_law_refusal" ["load","blocks"] (GE (.str "none") (.str "fit") (.str "wide")):=by
 refine mf T.d_law_refusal wP fun f cdv A outer s H vs Q E hr nd h=>?_;obtain⟨r,s',a,bs,v,rfl,ha,hB,b4,hh,q⟩:=h;refine⟨_,(kh (kU 2 nd mR) (kh (kU 3 nd qB) (kh (Jd Z Z Z (B3 (BS (HR Z (tO T) (hr.mono O) kf (kZ (oE nY kf T.b_list zci (lJ (pv 0))) (om [] ["block"] (lG (pv 1)) (fun C s H fp=>⟨(oM 0),lC,(oE (tL (K:=K) Z) kf T.b_list zci (lJ (pv 0)))⟩)))))) (IU (i:=4) nd Z Z (fun ea=>(lY (v:=.ref (cN 1)) kf T.c_NoFit Z)) (fun ea=>(kh (kU 2 nd mR) (kh (kU 3 nd (lH (oX (K:=K) Z) kf T.b_isinstance zbp (kZ (pv 4) (mE (ki (lY (v:=.ref (cN 3)) kf T.c_NoHole Z) (ki (lY (v:=.ref (cN 4)) kf T.c_NoName Z) (ki (lY (v:=.ref (cN 5)) kf T.c_NoNumber Z) (ki (lY (v:=.ref (cN 6)) kf T.c_NoQuotient Z) (ki (lY (v:=.ref (cN 7)) kf T.c_NoRing Z) kS))))))))) (ky (kU 3 nd (My (pv 3) (wE (lH (oX (K:=K) Z) kf T.b_isinstance zbp (kZ (pv 4) (mE (ki (lY (v:=.ref (cN 8)) kf T.c_NoRow Z) (ki (lY (v:=.ref (cN 9)) kf T.c_NoText Z) (ki (lY (v:=.ref (cN 10)) kf T.c_NoTurn Z) (ki (lY (v:=.ref (cN 11)) kf T.c_NoWheel Z) (ki (lY (v:=.ref (cN 2)) kf T.c_TooWide Z) kS))))))))))))))) (IU (i:=4) nd Z Z (fun ea=>(lY (v:=.ref (cN 2)) kf T.c_TooWide Z)) (fun ea=>(kh (kU 2 nd mR) (kh (kU 3 nd (lH (oX (K:=K) Z) kf T.b_isinstance zbp (kZ (pv 4) (mE (ki (lY (v:=.ref (cN 1)) kf T.c_NoFit Z) (ki (lY (v:=.ref (cN 3)) kf T.c_NoHole Z) (ki (lY (v:=.ref (cN 4)) kf T.c_NoName Z) (ki (lY (v:=.ref (cN 5)) kf T.c_NoNumber Z) (ki (lY (v:=.ref (cN 6)) kf T.c_NoQuotient Z) (ki (lY (v:=.ref (cN 7)) kf T.c_NoRing Z) kS)))))))))) (ky (kU 3 nd (My (pv 3) (wE (lH (oX (K:=K) Z) kf T.b_isinstance zbp (kZ (pv 4) (mE (ki (lY (v:=.ref (cN 8)) kf T.c_NoRow Z) (ki (lY (v:=.ref (cN 9)) kf T.c_NoText Z) (ki (lY (v:=.ref (cN 10)) kf T.c_NoTurn Z) (ki (lY (v:=.ref (cN 11)) kf T.c_NoWheel Z) kS)))))))))))))) By))) (kh (mh (oA (pv 3)) (ky (kM mR)) k9) (ky (kM (pv 2))))))),?_⟩
 -- what is handed to counter
 obtain⟨as,h1,pa⟩:=id hB;have lp:=kQ pa;refine⟨_,Z,r,_,Z,.inl (kR.of ha),fun ai Tk=>?_⟩;have se:=ku (o:=.lst (a.map zaa)) (kD.refl H) Tk;have JI:upd H ai (.lst (a.map zaa)) ai=some (.lst (a.map zaa)):=ko;generalize upd H ai (.lst (a.map zaa))=H7 at se JI ⊢;refine⟨_,Z,s',Z,⟨_,kR.of (se _ _ h1)⟩,?_⟩;refine p9 (K:=K) (xs:=as.map zac) bs (by rw[aa,lp]) ziU (kR.of (se _ _ h1)) ?_ ?_
 .intro i x H9 hx wb R kk;obtain⟨b,row,rfl,hb,mI,LR⟩:=nF pa hx;exact⟨_,Z,b,_,Z,.inl (kR.of (wb _ _ (se _ _ LR))),fun l hl=>kk _ l row (ku (kD.refl _) hl) mI ko⟩
 intro hd HZ uP _ O8;have O9:=se.trans uP;have Pa:=uP _ _ JI;rcases hh with ⟨nf,rfl⟩ | ⟨fit,wide,rfl⟩ | ⟨fit,n1,n2,b9,ba,rfl⟩
 .refine .inl ⟨ai,hd,a,bs,Z,Pa,O8,b4,.inl ⟨nf,?_⟩⟩;refine⟨true,.inl T.m_NoFit_NoFit,FV fun ea Pb=>?_⟩;have x0:upd HZ ea (Cz ea (.ref (cN 1))) ea=some (Cz ea (.ref (cN 1))):=ko;have s0:kD HZ (upd HZ ea (Cz ea (.ref (cN 1)))):=ku (kD.refl _) Pb;generalize upd HZ ea (Cz ea (.ref (cN 1)))=H0 at x0 s0 ⊢;refine⟨_,Z,(by show 5<=sizeLine;decide),fun t1 Jy=>⟨ea,(cN 1),t1,_,_,_,Z,(kO (kP x0 Jy)).trans x0,T.e_NoFit,ko,Z,T.j_1,?_⟩⟩;refine⟨_,Z,false,Z,uK ⟨_,Z,(by show 5<=sizeLine;decide),fun t2 O2=>⟨ea,(cN 1),t2,_,_,_,Z,(kO (kP ((kO (kP x0 Jy)).trans x0) O2)).trans ((kO (kP x0 Jy)).trans x0),T.e_NoFit,ko,Z,T.j_2,?_⟩⟩⟩;exact⟨_,Z,false,Z,uK ⟨_,Z,q _ (O9.trans (ku (ku s0 Jy) O2))⟩⟩
 .refine .inl ⟨ai,hd,a,bs,Z,Pa,O8,b4,.inr ⟨fit,wide,?_⟩⟩;refine⟨false,.inl T.m_TooWide_NoFit,uK ⟨true,.inl T.m_TooWide_TooWide,FV fun ea Pb=>?_⟩⟩;have x0:upd HZ ea (Cz ea (.ref (cN 2))) ea=some (Cz ea (.ref (cN 2))):=ko;have s0:kD HZ (upd HZ ea (Cz ea (.ref (cN 2)))):=ku (kD.refl _) Pb;generalize upd HZ ea (Cz ea (.ref (cN 2)))=H0 at x0 s0 ⊢;refine⟨_,Z,(by show 6<=sizeLine;decide),fun t1 Jy=>⟨ea,(cN 2),t1,_,_,_,Z,(kO (kP x0 Jy)).trans x0,T.e_TooWide,ko,Z,T.j_3,?_⟩⟩;refine⟨_,Z,false,Z,uK ⟨_,Z,kN,fun t2 O2=>⟨ea,(cN 2),t2,_,_,_,Z,(kO (kP ((kO (kP x0 Jy)).trans x0) O2)).trans ((kO (kP x0 Jy)).trans x0),T.e_TooWide,ko,Z,T.j_4,?_⟩⟩⟩;exact⟨_,Z,false,Z,uK ⟨_,Z,q _ (O9.trans (ku (ku s0 Jy) O2))⟩⟩
 .have fin:∀(t:Addr)(vQ:Hp),kD HZ vQ->Q (.str "none") vQ:=fun t vQ re=>q _ (O9.trans re);obtain⟨ps,PX⟩:=Pl.xi (n:=(a.length:Int)) J;obtain⟨l,qx⟩:=Rt.pQ.ex n1 PX;have kln:=zdb a.length l;have rc:Rco bs.length (zaz a.length l).length (2^34) (2^216):=Dg O O Ct.M4 O fun k _ _=>by lia
  refine .inr ⟨ai,hd,a,bs,a.length,2^34,2^216,ps,l,Z,Pa,O8,Z,fun b hb=>(fit b hb).1,n1,n2,J,qx,rc,fun b hb z hz=>bQ (Ct.A3 qx J (fit b hb).2 z hz) O,fun z hz=>bQ (Ct.A3 qx J ba z hz) O,fun t ct vQ cs re _ _ _ _ _=>?_,fun t wt vQ AW W s0 re _ _ _ _ _ _ _ _=>?_⟩
  .exact⟨_,Z,false,Z,uK ⟨_,Z,fin t vQ re⟩⟩
  .exact⟨_,Z,false,Z,uK ⟨_,Z,fin t vQ re⟩⟩
theorem rn (T:Txt K mg CF cN):Df P w K mg base 14 "_law_refused_by_base" ["load","blocks"] (GE (.bl false) (.bl true) (.bl true)):=by
 refine mf T.d_law_refused_by_base rG fun f cdv A outer s H vs Q E hr nd h=>?_;obtain⟨r,s',a,bs,v,rfl,ha,hB,b4,hh,q⟩:=h;refine⟨_,(kh (kU 2 nd qB) (kh (Jd Z Z Z (B3 (BS (HR Z (tO T) (hr.mono O) kf (kZ (oE nY kf T.b_list zci (lJ (pv 0))) (om [] ["block"] (lG (pv 1)) (fun C s H fp=>⟨(oM 0),lC,(oE (tL (K:=K) Z) kf T.b_list zci (lJ (pv 0)))⟩)))))) (IU (i:=3) nd Z Z (fun ea=>(lY (v:=.ref (cN 0)) kf T.c_HubError Z)) (fun ea=>(ky (kU 2 nd (lH (As (K:=K) Z) kf T.b_isinstance zbp (kZ (pv 3) (qA (v:=.ty "ValueError") kf T.b_ValueError L2.yx kf)))))) By)) (ky (kM (pv 2))))),?_⟩
 -- what is handed to counter
 obtain⟨as,h1,pa⟩:=id hB;have lp:=kQ pa;refine⟨_,Z,r,_,Z,.inl (kR.of ha),fun ai Tk=>?_⟩;have se:=ku (o:=.lst (a.map zaa)) (kD.refl H) Tk;have JI:upd H ai (.lst (a.map zaa)) ai=some (.lst (a.map zaa)):=ko;generalize upd H ai (.lst (a.map zaa))=H7 at se JI ⊢;refine⟨_,Z,s',Z,⟨_,kR.of (se _ _ h1)⟩,?_⟩;refine p9 (K:=K) (xs:=as.map zac) bs (by rw[aa,lp]) ziU (kR.of (se _ _ h1)) ?_ ?_
 .intro i x H9 hx wb R kk;obtain⟨b,row,rfl,hb,mI,LR⟩:=nF pa hx;exact⟨_,Z,b,_,Z,.inl (kR.of (wb _ _ (se _ _ LR))),fun l hl=>kk _ l row (ku (kD.refl _) hl) mI ko⟩
 intro hd HZ uP _ O8;have O9:=se.trans uP;have Pa:=uP _ _ JI;rcases hh with ⟨nf,rfl⟩ | ⟨fit,wide,rfl⟩ | ⟨fit,n1,n2,b9,ba,rfl⟩
 .refine .inl ⟨ai,hd,a,bs,Z,Pa,O8,b4,.inl ⟨nf,?_⟩⟩;refine⟨true,.inl T.m_NoFit_HubError,FV fun ea Pb=>?_⟩;refine⟨_,Z,ea,(cN 1),_,_,_,Z,ko,T.e_NoFit,Z,T.i_NoFit_ValueError,?_⟩;exact⟨_,Z,q _ (O9.trans (ku (kD.refl _) Pb))⟩
 .refine .inl ⟨ai,hd,a,bs,Z,Pa,O8,b4,.inr ⟨fit,wide,?_⟩⟩;refine⟨true,.inl T.m_TooWide_HubError,FV fun ea Pb=>?_⟩;refine⟨_,Z,ea,(cN 2),_,_,_,Z,ko,T.e_TooWide,Z,T.i_TooWide_ValueError,?_⟩;exact⟨_,Z,q _ (O9.trans (ku (kD.refl _) Pb))⟩
 .have fin:∀(t:Addr)(vQ:Hp),kD HZ vQ->Q (.bl false) vQ:=fun t vQ re=>q _ (O9.trans re);obtain⟨ps,PX⟩:=Pl.xi (n:=(a.length:Int)) J;obtain⟨l,qx⟩:=Rt.pQ.ex n1 PX;have kln:=zdb a.length l;have rc:Rco bs.length (zaz a.length l).length (2^34) (2^216):=Dg O O Ct.M4 O fun k _ _=>by lia
  refine .inr ⟨ai,hd,a,bs,a.length,2^34,2^216,ps,l,Z,Pa,O8,Z,fun b hb=>(fit b hb).1,n1,n2,J,qx,rc,fun b hb z hz=>bQ (Ct.A3 qx J (fit b hb).2 z hz) O,fun z hz=>bQ (Ct.A3 qx J ba z hz) O,fun t ct vQ cs re _ _ _ _ _=>?_,fun t wt vQ AW W s0 re _ _ _ _ _ _ _ _=>?_⟩
  .exact⟨_,Z,fin t vQ re⟩
  .exact⟨_,Z,fin t vQ re⟩
inductive RH (vs:List V)(H:Hp)(Q:VK)(_:XK):Prop
 | mk (n:Nat)(c:Int)(_:vs=[.int n,.int c])(_:1<=n)(_:n<=420)(_:∀m:Nat,1<=m->m<=420->m≠n->∀H',kD H H'->Q (.int m) H')
theorem IJ {K:zdg}{g:TG}{te:TE}{mw:St}{H:Hp}{Q:VK}{n:Nat} (Φ:List Int->Prop)(hz:n<=20000)
 (hs:∀(i:Nat) H2,i<n->kD H H2->∀R:VK,(∀H4 c z,kD H2 H4->Φ z->H4 c=some (.lst (z.map zaa))->R (.ref c) H4)->g (.int i) mw H2 fun n8 H3=>te n8 H3 R)
 (hd:∀D H2 zs,kD H H2->H D=none->mL H2 D zs->zs.length=n->(∀z∈zs,Φ z)->Q (.ref D) H2):oh (DF 0 n) g yv te mw Q H:=by
  refine qD (fun i rs H2=>kD H H2/\∃(as:List Addr)(zs:List (List Int)),rs=as.map zac/\Paired (fun a (x:List Int)=>H2 a=some (.lst (x.map zaa))) as zs/\zs.length=i/\∀z∈zs,Φ z) ⟨kD.refl H,[],[],Z,.nil,Z,fun _ h=>nomatch h⟩
    (fun i rs H2 hi z=>by obtain⟨as,zs,e,pa,l,_⟩:=z.2;rw[e,List.length_map,kQ pa,l];exact nQ J) ?_ ?_
  · rintro i rs H2 hi ⟨sm,as,zs,rfl,pa,l,hp⟩
    exact hs i H2 hi sm (fun y H4=>kD H H4/\∃(uO:List Addr)(Zy:List (List Int)),as.map zac++[y]=uO.map zac/\Paired (fun a (x:List Int)=>H4 a=some (.lst (x.map zaa))) uO Zy/\Zy.length=i+1/\∀z∈Zy,Φ z) fun H4 c z s4 hz hc=>⟨sm.trans s4,as++[c],zs++[z],by rw[aS];rfl,iV (Paired.yp pa fun d x e=>s4 _ _ e) hc,by rw[aI,l];rfl,fun y hy=>by
      rcases List.mem_append.mp hy with h | h
      · exact hp y h
      · rw[bF.mp h];exact hz⟩
  · rintro rs H2 ⟨sm,as,zs,rfl,pa,l,hp⟩ D hD
    exact hd D _ zs (ku sm hD) (sm.free hD) ⟨as,ko,Paired.yp pa fun d x e=>ku (kD.refl _) hD _ _ e⟩ l hp
theorem ue (T:Txt K mg CF cN):Df P w K mg base 1 "_law_other_size" ["n","cell"] RH:=by
 refine mf T.d_law_other_size uJ fun f cdv A outer s H vs Q E hr nd h=>?_;obtain⟨n,c,rfl,n1,n2,q⟩:=h;refine⟨_,(kh (kU 2 nd (k7 lP (mF (ki (kK nV (pv 0) ks) (ki (kK lU (pv 0) ks) (ki (kK lU ks (kK lO (kK lE (pv 1) ks) ks)) (ki (kK lU ks (kK lO (kK lE (pv 1) ks) ks)) kS))))) (kK lO (pv 1) ks))) (ui (mh (PW.pt (pL (mC A2 (pv 2) ks) (pL (mC tI (pv 2) ks) (rq (mC nR (pv 2) (pv 0)))))) (ky (kU 2 nd (kK lU ks (kK lO (pv 0) ks)))) k9) (ky (kM (pv 2))))),?_⟩;refine⟨_,Z,_,_,Z,Z,_,Z,_,_,Z,Z,_,Z,_,_,Z,Z,lR O O,_,_,Z,Z,(show (0:Int)<420 by decide),_,_,Z,Z,_,Z,_,_,Z,Z,lR O O,_,_,Z,Z,(show (0:Int)<60 by decide),_,_,Z,Z,kN,fun l hl=>?_⟩;refine⟨_,Z,_,_,Z,Z,(show (0:Int)<4 by decide),?_⟩;dsimp only;obtain⟨sz,hsz⟩:∃sz:Int,m9 [zaa ((n:Int)-1),zaa ((n:Int)+1),zaa (1+c/3%420),zaa (1+c/3%60)] (c%4)=some (.int sz):=by
  have r0:=aE c (show (4:Int)≠0 by decide);have r1:=aA c (show (0:Int)<4 by decide);have:c%4=0\/c%4=1\/c%4=2\/c%4=3:=kg;rcases this with z | z | z | z<;>rw[z]<;>exact⟨_,rfl⟩
 have sm:=ku (o:=.lst [zaa ((n:Int)-1),zaa ((n:Int)+1),zaa (1+c/3%420),zaa (1+c/3%60)]) (kD.refl H) hl;refine⟨l,_,_,_,Z,Z,kR.of ko,hsz,?_⟩;generalize upd H l (.lst [zaa ((n:Int)-1),zaa ((n:Int)+1),zaa (1+c/3%420),zaa (1+c/3%60)])=H1 at sm ⊢
 try dsimp only[mM,qK,qL]
 refine⟨fun σ H2=>H1=H2/\∃m:Nat,σ=[some (.int n),some (.int c),some (.int m)]/\1<=m/\m<=420/\m≠n,?_,?_⟩
 .refine⟨_,Z,_,_,Z,Z,_,Z,nw (fun _=>⟨_,Z,_,_,Z,Z,(show (0:Int)<420 by decide),_,_,Z,Z,Z,1+n%420,by rw[show ((1+n%420:Nat):Int)=1+(n:Int)%420 by omega];rfl,kg,kg,kg⟩) (fun c1=>⟨_,Z,_,_,Z,Z,_,Z,nw (fun _=>⟨_,Z,_,_,Z,Z,(show (0:Int)<420 by decide),_,_,Z,Z,Z,1+n%420,by rw[show ((1+n%420:Nat):Int)=1+(n:Int)%420 by omega];rfl,kg,kg,kg⟩) (fun c2=>⟨_,Z,_,Z,Z,_,Z,nw (fun _=>⟨_,Z,_,_,Z,Z,(show (0:Int)<420 by decide),_,_,Z,Z,Z,1+n%420,by rw[show ((1+n%420:Nat):Int)=1+(n:Int)%420 by omega];rfl,kg,kg,kg⟩) (fun c3=>?_)⟩)⟩)⟩;have d1:=uR c1;have d2:=uR c2;have d3:=vC c3;exact⟨Z,sz.toNat,by rw[bZ kg];rfl,kg,kg,fun z=>d3 kg⟩
 rintro σ H2 ⟨rfl,m,rfl,m1,m2,m3⟩;exact⟨_,Z,q m m1 m2 m3 H1 sm⟩
theorem RE (z:Int)(m:Nat):(List.replicate ((m:Nat):Int).toNat [zaa z]).flatten=(List.replicate m z).map zaa:=by
 rw[ae]
 induction m with
 | zero=>rfl
 | succ m ih=>rw[cH,eL,ih,cH,c5];rfl
theorem QJ:∀l:List Int,PyData.depthAll (l.map PyData.int)<=1
 | []=>by simp[PyData.depthAll]
 | a::r=>by have:=QJ r;simp only[List.map_cons,PyData.depthAll,PyData.depth];omega
theorem KO (W:List Int)(s:Int):PySem.SeqAt.shaped (.tuple [.str "bar",.list (W.map PyData.int),.int s])=true:=by
 have h:=ic W;have hd:=QJ W;unfold PySem.SeqAt.shaped at h ⊢;rw[fL] at h ⊢;have h1:=h.1;refine⟨by simp[PyData.canLay0,PyData.canLayAll0] at h1 ⊢;exact⟨kd,h1⟩,decide_eq_true ?_⟩;simp only[PyData.depth,PyData.depthAll];omega
theorem Jk (W:List Int)(s:Int):PySem.SeqAt.noMix (.tuple [.str "bar",.list (W.map PyData.int),.int s]) (.tuple [.str "way",.list []])=true:=by
 cases W<;>simp[PySem.SeqAt.noMix,PySem.SeqAt.noMixAll]
theorem GL (W:List Int)(s:Int):PySem.Spec.same (.tuple [.str "bar",.list (W.map PyData.int),.int s]) (.tuple [.str "way",.list []])=false:=by
 have h:(Str.ofString "bar" == Str.ofString "way")=false:=by decide +kernel
 have h2:¬Str.ofString "bar"=Str.ofString "way":=by simpa using h
 simp[PySem.Spec.same,PySem.Spec.sameAll,h2]
theorem NN (T:Txt K mg CF cN){f:Addr}{fd:FuncData}(F:Ez K "law" "law" IY f fd):pK P w K mg base Dl 15 f fd ["script"] (Ey K):=by
 refine F.ok GK (fun vs H Q E h=>?_) (fun cdv A outer s H vs Q E hr h=>?_)
 .obtain⟨_,_,rfl,_⟩:=h;rfl
 obtain⟨a,ns,rfl,hS,h63,q⟩:=h;have nd:=GK.nd;refine⟨_,(kh (kU 1 nd (kK lU ks (kK lO (kK lE (kW (lQ T) hr (kZ (pv 0) ks)) ks) ks))) (ui (mh (mC nR (kK lO (kW (lQ T) hr (kZ (pv 0) ks)) ks) ks) (ky (kU 1 nd (kK lU ks (kK lO (kK lE (kW (lQ T) hr (kZ (pv 0) ks)) ks) ks)))) k9) (ui (mh (mC nR (kK lO (kW (lQ T) hr (kZ (pv 0) ks)) ks) ks) (ky (kU 1 nd (kK lU ks (kK lO (kK lE (kW (lQ T) hr (kZ (pv 0) ks)) ks) ks)))) k9) (ui (mh (mC nR (kK lO (kK lE (kW (lQ T) hr (kZ (pv 0) ks)) ks) ks) ks) (ky (kU 1 nd (k7 lP (mF (ki ks (ki ks (ki ks (ki ks (ki ks kS)))))) (kK lO (kK lE (kW (lQ T) hr (kZ (pv 0) ks)) ks) ks)))) k9) (kh (kU 2 nd (kK pJ (mF (lJ ks)) (pv 1))) (kh (mD aJ Z (Fq kf T.b_range (kZ ks (lH (y9 Z) kf T.b_min L2.GI (kZ (oG T.b_len (pv 0)) ks)))) (mT 3 nd) (kh (kU 4 nd (kK lO (pv 3) (pv 1))) (ky (pY (kK nV (kK lU (k7 lP (pv 2) (pv 4)) (kK lO (k7 lP (pv 0) (pv 3)) (kK lU (kK lL ks (kK Dq ks ks)) ks))) (kK Dq ks ks)) (pZ (pv 2) (pv 4) set_list))))) (kh (vV 5 [("n",1),("script",0)] ["k"] nd (nM kf T.b_range (lJ (kK lU ks (kK lO (kW (lQ T) hr (kZ (pv 0) ks)) ks)))) (fun C s H fp=>⟨(oM 2),lC,(kK pJ (mF (lJ (kK nV (kK lO (kW (lQ T) hr (kZ (pv 1) (kK lU ks (pv 2)))) ks) ks))) (pv 0))⟩)) (kh (kU 6 nd (k7 lP (mF (kZ mR mR)) (oE Fh kf T.b_int L2.He (lJ (nX tI (pv 1) ks (oO _)))))) (ui (mh (mC nR (kK lO (kW (lQ T) hr (kZ (pv 0) ks)) ks) ks) (kh (kU 4 nd (kK lO (kK lE (kW (lQ T) hr (kZ (pv 0) ks)) ks) (oG T.b_len (pv 5)))) (kh (pY (kK pJ (mF (lJ ks)) (kW (ue T) hr (kZ (pv 1) (kW (lQ T) hr (kZ (pv 0) ks))))) (pZ (pv 5) (pv 4) set_list)) (ky (kU 6 nd mR)))) k9) (kh (mh (PW.pt (pL (mC oN (kW (sk T) hr (kZ (pv 2) (pv 5))) (pv 6)) (rq (mC oN (kW (rn T) hr (kZ (pv 2) (pv 5))) (nX oN (pv 6) mR (oO _)))))) (ky (kM qB)) k9) (kh (mh (mC tI (pv 1) ks) (ky (kM (nX nR (kW (sk T) hr (kZ (pv 2) (mF kS))) mR (oO _)))) k9) (kh (kU 7 nd (Ng (tO T) (hr.mono O) kf (kZ (oE nY kf T.b_list zci (lJ (pv 2))) (mF kS)))) (kh (mh (mC (C5 (Hs hr)) (pv 7) (mE (kZ mR (mF kS)))) (ky (kM (kW (Bz T) hr (lJ (pv 2))))) k9) (ky (kM (kW (CT T) hr (ki (pv 7) (ki (pv 2) (ki (mF kS) kS))))))))))))))))))),?_⟩;rw[show start ["script","n","load","k","at","blocks","due","found"] [zac a]=[some (.ref a),none,none,none,none,none,none,none] from Z]
 -- n
 refine⟨_,Z,a,ns,0,Z,hS,dj 0,fun v0=>⟨_,_,Z,Z,lR O O,_,_,Z,Z,(show (0:Int)<12 by decide),_,_,Z,Z,?_⟩⟩
 try dsimp only[mM,qK,qL]
 refine⟨fun σ H2=>H=H2/\∃n:Nat,σ=[some (.ref a),some (.int n),none,none,none,none,none,none]/\1<=n/\n<=420,?_,?_⟩
 .have r0:=aE (v0/3) (show (12:Int)≠0 by decide);have r1:=aA (v0/3) (show (0:Int)<12 by decide);refine⟨_,Z,a,ns,0,Z,hS,dj 0,fun v1=>⟨_,_,Z,Z,(show (0:Int)<3 by decide),Z,_,Z,nw (fun _=>?_) (fun _=>⟨Z,(1+v0/3%12).toNat,by rw[bZ J]<;>rfl,J,J⟩)⟩⟩;refine⟨_,Z,a,ns,0,Z,hS,dj 0,fun v2=>⟨_,_,Z,Z,lR O O,_,_,Z,Z,(show (0:Int)<60 by decide),_,_,Z,Z,?_⟩⟩;have r2:=aE (v2/3) (show (60:Int)≠0 by decide);have r3:=aA (v2/3) (show (0:Int)<60 by decide);exact⟨Z,(1+v2/3%60).toNat,by rw[bZ J];rfl,J,J⟩
 rintro σ H2 ⟨rfl,nA,rfl,nA1,nA2⟩;refine⟨fun σ H2=>H=H2/\∃n:Nat,σ=[some (.ref a),some (.int n),none,none,none,none,none,none]/\1<=n/\n<=420,?_,?_⟩
 .refine⟨_,Z,a,ns,0,Z,hS,dj 0,fun v1=>⟨_,_,Z,Z,(show (0:Int)<3 by decide),Z,_,Z,nw (fun _=>?_) (fun _=>⟨Z,nA,Z,nA1,nA2⟩)⟩⟩;refine⟨_,Z,a,ns,0,Z,hS,dj 0,fun v2=>⟨_,_,Z,Z,lR O O,_,_,Z,Z,(show (0:Int)<360 by decide),_,_,Z,Z,?_⟩⟩;have r2:=aE (v2/3) (show (360:Int)≠0 by decide);have r3:=aA (v2/3) (show (0:Int)<360 by decide);exact⟨Z,(61+v2/3%360).toNat,by rw[bZ J];rfl,J,J⟩
 rintro σ H2 ⟨rfl,nB,rfl,nB1,nB2⟩;refine⟨fun σ H2=>kD H H2/\∃n:Nat,σ=[some (.ref a),some (.int n),none,none,none,none,none,none]/\1<=n/\n<=420,?_,?_⟩
 .refine⟨_,Z,a,ns,0,Z,hS,dj 0,fun v1=>⟨_,_,Z,Z,lR O O,_,_,Z,Z,(show (0:Int)<4 by decide),Z,_,Z,nw (fun _=>?_) (fun _=>⟨kD.refl _,nB,Z,nB1,nB2⟩)⟩⟩;refine⟨(by show 5<=sizeLine;decide),fun ml Yy=>?_⟩;have mQ:=ku (o:=.lst [zaa 59,zaa 60,zaa 61,zaa 62,zaa 64]) (kD.refl H) Yy;have Tl:upd H ml (.lst [zaa 59,zaa 60,zaa 61,zaa 62,zaa 64]) ml=some (.lst [zaa 59,zaa 60,zaa 61,zaa 62,zaa 64]):=ko;generalize upd H ml (.lst [zaa 59,zaa 60,zaa 61,zaa 62,zaa 64])=H1 at mQ Tl ⊢;refine⟨_,Z,a,ns,0,Z,mQ.seq hS,dj 0,fun v2=>⟨_,_,Z,Z,lR O O,_,_,Z,Z,(show (0:Int)<5 by decide),?_⟩⟩;obtain⟨n,hn,n1,n2⟩:∃n:Nat,m9 [zaa 59,zaa 60,zaa 61,zaa 62,zaa 64] (v2/12%5)=some (.int n)/\1<=n/\n<=420:=by
   have r0:=aE (v2/12) (show (5:Int)≠0 by decide);have r1:=aA (v2/12) (show (0:Int)<5 by decide);have:v2/12%5=0\/v2/12%5=1\/v2/12%5=2\/v2/12%5=3\/v2/12%5=4:=J;rcases this with z | z | z | z | z<;>rw[z]
   .exact⟨59,Z,O,O⟩
   .exact⟨60,Z,O,O⟩
   .exact⟨61,Z,O,O⟩
   .exact⟨62,Z,O,O⟩
   .exact⟨64,Z,O,O⟩
  exact⟨ml,_,_,_,Z,Z,kR.of Tl,hn,mQ,n,Z,n1,n2⟩
 rintro σ H1 ⟨mQ,n,rfl,n1,n2⟩;have PN:=mQ.seq hS
 -- load
 refine⟨kC,fun lo zD=>⟨_,Z,lo,_,_,Z,Z,ko,J,J,ziV,fun p hp=>?_⟩⟩;rw[rep0];have ol:kD H1 (upd (upd H1 lo (.lst [zaa 0])) p (.lst ((List.replicate n (0:Int)).map zaa))):=ku (ku (kD.refl _) zD) hp;have pn:H1 p=none:=(ku (kD.refl _) zD).free hp;have hP:upd (upd H1 lo (.lst [zaa 0])) p (.lst ((List.replicate n (0:Int)).map zaa)) p=some (.lst ((List.replicate n (0:Int)).map zaa)):=ko;generalize upd (upd H1 lo (.lst [zaa 0])) p (.lst ((List.replicate n (0:Int)).map zaa))=H5 at ol hP ⊢
 try dsimp only[mM,qK,qL]
 have zhF:((ns.map zaa).length:Int)<=63:=by rw[aa];lia
 obtain⟨mx,hmx,mx1,mx2⟩:∃mx:Int,mx=(if (86:Int)<((ns.map zaa).length:Int) then 86 else ((ns.map zaa).length:Int))/\0<=mx/\mx<=(ns.length:Int):=⟨_,Z,by split<;>lia,by rw[List.length_map];split<;>lia⟩;refine⟨_,Z,a,_,Z,.inl (ol.seq PN),_,_,Z,6,mx,(by rw[hmx]),⟨J,J,J,J⟩,?_⟩;obtain⟨nn,hnn⟩:∃nn:Nat,nn=(mx-6).toNat:=⟨_,Z⟩;rw[<-hnn];have UM:(10:Int)^(60:Int).toNat=1000000000000000000000000000000000000000000000000000000000000:=O;refine zt (lo:=6) (n:=nn) (fun i σ H6=>kD H1 H6/\∃(ld:List Int)(o3 o4:Option V),σ=[some (.ref a),some (.int n),some (.ref p),o3,o4,none,none,none]/\H6 p=some (.lst (ld.map zaa))/\ld.length=n/\∀x∈ld,x.natAbs<=i*10^60) ⟨ol,_,none,none,Z,hP,aQ,fun x hx=>by rw[(e8.mp hx).2];exact cX _⟩ ?_ ?_
 .rintro i σ H6 hi ⟨rh,ld,o3,o4,rfl,h6,ll,To⟩;obtain⟨kk,hkk⟩:∃kk:Nat,kk=6+i:=⟨_,Z⟩;have ek:(6:Int)+(i:Int)=(kk:Nat):=J;rw[ek];obtain⟨j,hj⟩:∃j:Nat,(j:Int)=(kk:Int)%(n:Int):=⟨kk%n,by rw[Int.natCast_emod]⟩;have jn:(j:Int)<n:=by rw[hj];exact aA _ J
  refine⟨_,Z,_,Z,_,_,Z,Z,(show (0:Int)<n by lia),?_⟩;dsimp only;rw[<-hj];have cg:m9 (ld.map zaa) (j:Int)=some (.int (zai ld j)):=m8 ziW;have cc:m9 (ns.map zaa) (kk:Int)=some (.int (zai ns kk)):=m8 ziW;have c1:=aE (zai ns kk) (show (2*(10:Int)^(60:Int).toNat+1)≠0 by rw[UM];decide);have c2:=aA (zai ns kk) (show (0:Int)<2*(10:Int)^(60:Int).toNat+1 by rw[UM];decide);refine⟨_,Z,_,Z,p,_,_,_,Z,Z,kR.of h6,cg,_,Z,_,Z,a,_,_,_,Z,Z,rh.seq PN,cc,_,_,Z,Z,⟨O,O,O⟩,_,_,Z,Z,oV O O,_,_,Z,Z,_,_,Z,Z,(show (0:Int)<2*(10:Int)^(60:Int).toNat+1 by rw[UM];decide),_,_,Z,Z,_,_,Z,Z,⟨O,O,O⟩,_,_,Z,Z,_,Z,_,Z,p,_,_,_,Z,Z,h6,qH J ziU,?_⟩;rw[ae,set_int];refine⟨lI rh pn,_,_,_,Z,ko,by rw[cq,ll],fun x hx=>?_⟩;rw[gZ];rcases List.mem_or_eq_of_mem_set hx with z | z
  .have:=To x z;lia
  .have b:=To _ (zbd (l:=ld) (i:=j) J);rw[z];rw[UM] at c1 c2 ⊢;lia
 rintro σ H6 ⟨rh,ld,o3,o4,rfl,h6,ll,To⟩;have Zz:∀x∈ld,x.natAbs<=81*10^60:=fun x hx=>bQ (To x hx) (cJ _ J);clear To;have hS6:=rh.seq PN
 -- blocks
 refine⟨_,Z,a,ns,1,Z,hS6,O,fun v3=>⟨_,_,Z,Z,(show (0:Int)<4 by decide),_,_,Z,Z,?_⟩⟩;obtain⟨à,Tp,m1,m4⟩:∃à:Nat,1+v3%4=(à:Int)/\1<=à/\à<=4:=⟨(1+v3%4).toNat,J,J,J⟩;refine⟨à,cU (fun z=>[zaa z]) Tp,J,J,?_⟩;refine IJ (K:=K) (n:=à) (fun z=>z.length=n/\∀x∈z,x.natAbs<=9) J ?_ ?_
 .intro i H7 hi se R kk;refine⟨_,Z,_,Z,_,_,Z,Z,a,ns,1+(i:Int),Z,se.seq hS6,J,fun v4=>⟨_,_,Z,Z,(show (0:Int)<19 by decide),_,_,Z,Z,kC,fun l1 E8=>⟨_,Z,l1,_,_,Z,Z,ko,J,J,ziV,fun p1 Fb=>?_⟩⟩⟩;have r0:=aE v4 (show (19:Int)≠0 by decide);have r1:=aA v4 (show (0:Int)<19 by decide);refine kk _ p1 (List.replicate n (v4%19-9)) (ku (ku (kD.refl _) E8) Fb) ⟨aQ,fun x hx=>by rw[(e8.mp hx).2];lia⟩ ?_;rw[ko];exact cU (fun z=>some (HO.lst z)) (RE _ _)
 intro bl H7 Um se fbl hbl Uf bb
 try dsimp only[mM,qK,qL]
 -- due
 refine⟨kq,fun dl hdl=>?_⟩;have uP:=ku (o:=.lst [zap "none",zap "wide"]) (kD.refl H7) hdl;have Tq:upd H7 dl (.lst [zap "none",zap "wide"]) dl=some (.lst [zap "none",zap "wide"]):=ko;generalize upd H7 dl (.lst [zap "none",zap "wide"])=H8 at uP Tq ⊢;have yG:=(rh.trans se).trans uP;have ZA:=yG.seq PN;have ZB:=(se.trans uP) _ _ h6;have Tr:=hbl.same uP;have fb1:H1 bl=none:=rh.free fbl;obtain⟨dv,hdv,rel⟩:∃dv:Str,m9 [zap "none",zap "wide"] (if decide ((n:Int) > 60)=true then 1 else 0)=some (.str dv)/\((60<n/\dv = "wide")\/(n<=60/\dv = "none")):=by
  by_cases c:(n:Int) > 60
  .rw[b5 c];exact⟨"wide",Z,.inl ⟨J,Z⟩⟩
  .rw[dU c];exact⟨"none",Z,.inr ⟨J,Z⟩⟩
 refine⟨_,Z,_,_,Z,Z,.inr ⟨_,Z,dl,_,_,_,Z,Z,kR.of Tq,hdv,?_⟩⟩
 try dsimp only[mM,qK,qL]
 refine⟨fun σ H9=>kD H1 H9/\∃(bs:List (List Int))(dv:Str)(o5:Option V),σ=[some (.ref a),some (.int n),some (.ref p),o3,o5,some (.ref bl),some (.str dv),none]/\mL H9 bl bs/\H9 p=some (.lst (ld.map zaa))/\bs.length<=9/\Vk ld bs (.str "none") (.str "fit") (.str "wide") (.str dv),?_,?_⟩
 .refine⟨_,Z,a,ns,5,Z,ZA,O,fun v5=>⟨_,_,Z,Z,(show (0:Int)<2 by decide),Z,_,Z,nw (fun _=>?_) (fun _=>⟨yG,Um,dv,_,Z,Tr,ZB,J,?_⟩)⟩⟩
  .obtain⟨as,h1,pa⟩:=id Tr;have lp:=kQ pa;refine⟨_,Z,a,ns,5,Z,ZA,O,fun v6=>⟨_,_,Z,Z,lR O O,_,Z,bl,_,Z,.inl (kR.of h1),_,_,Z,Z,ziU,?_⟩⟩;dsimp only;rw[aa];obtain⟨j,hj⟩:∃j:Nat,(j:Int)=v6/2%(as.length:Int):=⟨(v6/2%(as.length:Int)).toNat,Int.toNat_of_nonneg (Int.emod_nonneg _ J)⟩;have jn:(j:Int)<as.length:=by rw[hj];exact aA _ J
   rw[<-hj]
   try dsimp only[mM,qK,qL]
   refine⟨kC,fun l1 E8=>?_⟩;have AH:=ku (o:=.lst [zaa 1]) (kD.refl H8) E8;have hla:upd H8 l1 (.lst [zaa 1]) l1=some (.lst [zaa 1]):=ko;generalize upd H8 l1 (.lst [zaa 1])=Ha at AH hla ⊢;refine⟨_,Z,_,Z,a,ns,4,Z,AH.seq ZA,O,fun v7=>⟨n,v7,Z,n1,n2,fun m m1' m2' mn Hb MG=>⟨l1,_,_,Z,Z,MG _ _ hla,J,J,ziV,fun p2 OT=>?_⟩⟩⟩;rw[RE];have smc:=ku (o:=.lst ((List.replicate m (1:Int)).map zaa)) ((AH.trans MG)) OT;have hpc:upd Hb p2 (.lst ((List.replicate m (1:Int)).map zaa)) p2=some (.lst ((List.replicate m (1:Int)).map zaa)):=ko;generalize upd Hb p2 (.lst ((List.replicate m (1:Int)).map zaa))=Hc at smc hpc ⊢;have ZC:=smc _ _ h1;have pac:=Paired.yp pa fun d x e=>smc _ _ e;have ne:as≠[]:=fun z=>by rw[z] at jn;have:(j:Int)<0:=jn;lia
   refine⟨_,Z,_,Z,bl,_,_,_,Z,Z,ZC,qH J ziU,?_⟩;rw[ae];refine⟨lI (yG.trans smc) fb1,Um.set j (List.replicate m 1),"fit",_,Z,mL.put ZC pac ne hpc,?_,by rw[cq];lia,.inl ⟨⟨List.replicate m 1,ah (eV J),by rw[aQ,ll];exact mn⟩,Z⟩⟩;rw[kO (oB (smc _ _ ZB) ZC fun z=>?_)]
   .exact smc _ _ ZB
   .injection z with z;cases as with
    | nil=>exact ne Z
    | cons b r=>cases ld with
     | nil=>cases z
     | cons x y=>injection z with z;cases z
  .rcases rel with ⟨c,rfl⟩ | ⟨c,rfl⟩
   .exact .inr (.inl ⟨fun b hb=>by rw[(bb b hb).1,ll],J,Z⟩)
   .exact .inr (.inr ⟨fun b hb=>⟨by rw[(bb b hb).1,ll],(bb b hb).2⟩,J,J,J,Zz,Z⟩)
 rintro σ H9 ⟨wb,bs,dv,o5,rfl,Ts,ZD,b9,ans⟩
 -- Tt
 refine⟨_,Z,_,Z,p,bl,ld,bs,.str dv,Z,ZD,Ts,J,ans,fun Ha AH=>?_⟩;refine⟨_,Z,Z,_,Z,nq ke ?_⟩;have an2:Vk ld bs (.bl false) (.bl true) (.bl true) (.bl (!decide (zap dv=zap "none"))):=by
  rcases ans with ⟨x,e⟩ | ⟨x,y,e⟩ | ⟨x,y,z,w,u,e⟩
  .exact .inl ⟨x,by injection e with e;rw[e];rfl⟩
  .exact .inr (.inl ⟨x,y,by injection e with e;rw[e];rfl⟩)
  .exact .inr (.inr ⟨x,y,z,w,u,by injection e with e;rw[e];rfl⟩)
 refine⟨_,Z,_,Z,p,bl,ld,bs,_,Z,AH _ _ ZD,Ts.same AH,J,an2,fun Hb MG=>?_⟩;refine⟨_,Z,Z,Z,_,Z,nq ke ?_⟩;have ZE:=(AH.trans MG) _ _ ZD;refine⟨_,Z,_,_,Z,Z,_,Z,nw (fun c=>?_) (fun c=>?_)⟩
 .have wd:=dec c;refine⟨_,Z,cX _,fun e0 ZF=>?_⟩;have smc:=ku (o:=.lst []) (kD.refl Hb) ZF;refine⟨p,e0,ld,[],.str "wide",Z,smc _ _ ZE,⟨[],ko,.nil⟩,O,.inr (.inl ⟨fun _ h=>(nomatch h),J,Z⟩),fun Hd _=>⟨Z,?_⟩⟩;rw[b5 Z];exact q _
 have nr:=uR c;have n6:n<=60:=J;obtain⟨ps,PX⟩:=Pl.xi (n:=(n:Int)) J;obtain⟨l,qx⟩:=Rt.pQ.ex n1 PX;have rc:Rco ([]:List (List Int)).length (zaz n l).length (2^34) (2^216):=Dg O O Ct.M4 O fun k z _=>by have:k<=0:=z;lia
 have ldN:Bd 400 ld:=fun z hz=>cf (Zz z hz) O;refine⟨_,Z,p,_,Z,.inl (kR.of ZE),fun ai Tk=>?_⟩;have smc:=ku (o:=.lst (ld.map zaa)) (kD.refl Hb) Tk;have Ut:upd Hb ai (.lst (ld.map zaa)) ai=some (.lst (ld.map zaa)):=ko;generalize upd Hb ai (.lst (ld.map zaa))=Hc at smc Ut ⊢;refine⟨cX _,fun e0 ZF=>?_⟩;have ZG:=ku (o:=.lst []) (kD.refl Hc) ZF;have hed:upd Hc e0 (.lst []) e0=some (.lst []):=ko;generalize upd Hc e0 (.lst [])=Hd at ZG hed ⊢;have h6d:=(smc.trans ZG) _ _ ZE;refine .inr ⟨ai,e0,ld,[],n,2^34,2^216,ps,l,Z,ZG _ _ Ut,⟨[],hed,.nil⟩,ll,fun _ h=>(nomatch h),n1,n6,O,qx,rc,fun _ h=>(nomatch h),fun z hz=>bQ (Ct.A3 qx J Zz z hz) O,fun t ct vQ cs re UN UO lc bc sh=>?_,fun t wt vQ AW W s0 re UN UO lA s1 bA lW ev sh=>?_⟩
 .try dsimp only[mM,qK,qL]
  have ec:cs=[]:=List.length_eq_zero_iff.mp lc;subst ec;refine⟨_,Z,cX _,fun e1 ZH=>⟨kq,fun tt qk=>?_⟩⟩;have ZI:=ku (o:=.lst []) (kD.refl vQ) ZH;have JT:=ku (o:=.tup [zap "way",zac e1]) ZI qk;have JQ:upd (upd vQ e1 (.lst [])) tt (.tup [zap "way",zac e1]) e1=some (.lst []):=ku (kD.refl _) qk _ _ ko;refine⟨_,_,.tup (lX.of (JT _ _ UN)) (.cons (.str _) (.cons (.lst (kR.of (JT _ _ UO)) .nil) .nil)),.tup (lX.of ko) (.cons (.str _) (.cons (.lst (kR.of JQ) .nil) .nil)),kd,kd,kd,_,Z,qM kd ?_⟩;have zn:=Ct.way qx n1 ll (bs:=[]) (fun _ h=>(nomatch h)) sh;rw[show Ct.Pi ld [] [] ([]:List (List Int)).length=zae ld from funext fun x=>dF _] at zn;exact⟨_,Z,p,ld,n,ps,l,Z,JT _ _ (re _ _ h6d),ll,n1,J,qx,zn,fun Y2 _=>q Y2⟩
 .try dsimp only[mM,qK,qL]
  have br:=Ct.bar qx ll (bs:=[]) (fun _ h=>(nomatch h)) lW sh lA ev;refine⟨_,Z,cX _,fun e1 ZH=>⟨kq,fun tt qk=>?_⟩⟩;have ZI:=ku (o:=.lst []) (kD.refl vQ) ZH;have JT:=ku (o:=.tup [zap "way",zac e1]) ZI qk;have JQ:upd (upd vQ e1 (.lst [])) tt (.tup [zap "way",zac e1]) e1=some (.lst []):=ku (kD.refl _) qk _ _ ko;refine⟨_,_,.tup (lX.of (JT _ _ UN)) (.cons (.str _) (.cons (.lst (kR.of (JT _ _ UO)) (zZ AW)) (.cons (.int _) .nil))),.tup (lX.of ko) (.cons (.str _) (.cons (.lst (kR.of JQ) .nil) .nil)),KO _ _,kd,Jk _ _,_,Z,nq (by rw[GL];decide) ?_⟩;have smE:=re.trans JT;refine⟨_,Z,_,Z,cX _,fun e2 hE2=>?_⟩;have ZJ:=ku (o:=.lst []) (kD.refl _) hE2;refine⟨t,p,e2,wt,ld,AW,[],s0,n,400,9007,ps,Z,ZJ _ _ (smE _ _ h6d),⟨[],ko,.nil⟩,ll,ldN,fun _ h=>(nomatch h),n1,n6,O,O,PX,ZJ _ _ (JT _ _ UN),ZJ _ _ (JT _ _ UO),lA,s1,bA,fun p' st pm E9 en Px z0 z1=>?_,fun _ h=>(nomatch h),br.2,fun PP _=>q PP⟩;rw[<-Ct.Lz qx (W:=W) pm E9 en z0 z1];refine zad fun t' T5=>?_;have pos:0<=(t':Int)*st:=bI J J;have bd:Px+(t':Int)*st<n:=by
   have a1:=aq (show (t':Int)<=p'-1 by lia) (show 0<=(st:Int) by lia);have a2:(n:Int)=p'*st:=by rw[en,aP]
   rw[cT] at a1;lia
  have:=ev (Px+(t':Int)*st).toNat J;rwa [bZ J] at this
end
theorem all_mk {w:World}{K:zdg}{h:Heap}{mg:Str->Option Value}{fa:Addr}(X:K.In h)(G:h.Ns mainGlobals mg)(hfa:mg "law"=some (.ref fa)){CF:Addr}{cN:Nat->Nat}(T:Txt K mg CF cN)(a:Fa K "law" IY)
 : ∃fd:FuncData,(∀(s:Shared)(v:Value),BindsTo s fd ⟨[v],[]⟩ [("script",v)])/\∀base:Heap,K.In base->base.Ns mainGlobals mg->pK l.prog w K mg base Dl 15 fa fd ["script"] (Ey K):=by
  obtain⟨fd,F⟩:=a.law X G hfa;exact⟨fd,F.to (ZM Z fun _ _ _ _ _ _ _=>Z),fun base _ _=>NN T F⟩
theorem walk {q:Program}{loose:List Str}{XP:(Str->Option Value)->Heap->Prop}{YP:World->Heap->Prop}{d:DefRec}{K:Params->zdg}(hn:l.most=some 63)(R0:d.params.defaults=[])
 (hY:∀(w:World)(h:Heap),YP w h->(K w.params).In h)
 (F:∀(w:World)(mg:Str->Option Value)(fa:Addr)(h:Heap),(K w.params).In h->h.Ns mainGlobals mg->mg d.name=some (.ref fa) ->
 ∃fd:FuncData,(∀(s:Shared)(u:Value),BindsTo s fd ⟨[u],[]⟩ [("script",u)])/\∀base:Heap,(K w.params).In base->base.Ns mainGlobals mg->pK l.prog w (K w.params) mg base Dl 15 fa fd ["script"] (Ey (K w.params))) :
    PySem.W.WalkO q loose XP YP l.row.toRowW d [] (fun f vs=>PySem.call f vs) :=
  L2.Ke (n:=63) (k:=15) (x:="script") (CX:=fun _=>Dl) (sp:=fun w=>Ey (K w.params)) hn O R0 ⟨Z,O,O⟩ hY F (fun _ _ a ns hl _ hS=>⟨a,ns,Z,hS,hl,fun _=>Z⟩) fun _ _ _ _ _ z=>z
end K40
namespace PwT
open PySem
abbrev S:=Str.ofString
noncomputable def lD (l:List Str):Nat->Str:=@List.rec Str (fun _=>Nat->Str) (fun _=>⟨#[]⟩) (fun a _ ih n=>@Nat.rec (fun _=>Str) a (fun m _=>ih m) n) l
noncomputable def A:List Str:=[S "_law_rows_of",S "found",S "n",S "isinstance",S "list",S "row",S "tuple",S "len",S "all",S "_law_whole",S "one",S ".0",S "_law_primes",S "fast",S "_law_even",S "load",S "told",S "paper",S "even",S "_law_laid",S "_law_bar",S "blocks",S "bar",S "_law_numbers",S "p",S "hole",S "range",S "sum",S "k",S "block",S "_law_by",S "_law_sum",S "_law_refusal",S "none",S "other",S "counter",S "NoFit",S "e",S "fit",S "NoHole",S "NoName",S "NoNumber",S "NoQuotient",S "NoRing",S "NoRow",S "NoText",S "NoTurn",S "NoWheel",S "TooWide",S "wide",S "more",S "_law_refused_by_base",S "sure",S "HubError",S "ValueError",S "_law_other_size",S "cell",S "size",S "law",S "script",S "_law_cell_at",S "min",S "at",S "due",S "int",S "way",S "bool",S "many",S "weights",S "total",S "zip",S "number",S "modulus",S "append",S "rows",S "MOST_HOLES_COUNTERED",S "check_fit",S "counterweights are sought on wheels of at most ",S " holes",S "holes",S "kept",S "reach",S "kept_rest",S "scaled",S "all_weighings",S "left",S "rest",S "outcome",S "plus",S "weighing",S "__name__",S "law_evenhub_k40_no_counterweights",S "leads_of",S "leads",S "hung",S "column",S "enumerate",S "entered",S "lead",S "euclid",S "mixed",S "beyond",S "barring",S "amounts",S "place",S "later",S "weighed",S "inner_bar",S "frame",S "evenhub.counters",S "summed",S "steps",S "counts",S "step",S "first_unbarred",S "divides",S "sought",S "goal",S "prime",S "Frame",S "missed",S "sought_within",S "column_of",S "picked",S "chosen",S "goal_made",S "others",S "sought_with",S "made",S "joint",S "whole_counts",S "lessened",S "taken",S "centred",S "spared",S "spread",S "top",S "scale",S "evenhub.steps",S "FIRST_PRIME",S "is_shown",S "next_prime",S "parts",S "taken_times",S "undone_rows",S "back",S "solved",S "undoing",S "rests",S "is_solution",S "count",S "fractions",S "bits",S "bit_length",S "bottom",S "least_bottom",S "abs",S "flipped",S "corners",S "cleared",S "first_filled",S "weight",S "less",S "is_kept",S "the hole isn't kept",S "q",S "factors",S "part_weighing",S "share",S "kept_share",S "uneven",S "evenhub.frames",S "__init__",S "self",S "columns",S "things",S "places",S "numbers",S "first_dropped",S "dropped",S "lay_ring",S "evenhub.papers",S "evenhub.rings",S "ring_holes",S "evenhub.rests",S "the loads have unlike numbers of holes",S "evenhub.primes",S "prime_power",S "the divisor of the step and the number isn't 1",S "turned_on",S "pair",S "turn",S "next_turn",S "length",S "LEAD_BITS",S "behind",S "sure_turn",S "later_rest",S "new_rest",S "further",S "doubt",S "max",S "evenhub.loads",S "evenhub.wholes",S "divisor",S "great",S "small",S "evenhub.errors",S "/claim/cut.py",S "<module>",S "__main__",S "__doc__",S "__package__",S "__loader__",S "__spec__",S "__annotations__",S "__builtins__",S "__file__",S "__cached__",S "__module__",S "__qualname__",S "__firstlineno__",S "__static_attributes__",S "__weakref__",S "Frame.__init__",S "Frame.missed",S "Frame.counts",S "Frame.weights",S "__dict__"]
set_option maxRecDepth 100000 in
noncomputable def BB:{b:List Str // A=b}:=by
 refine⟨?b,?h⟩
 case h =>
  delta A
  repeat (refine cc (PySem.W.Fast.ofString_ofList _) (by dsimp only[List.map,Char.reduceToNat];exact Z) ?_)
  exact Z
noncomputable def p (i:Nat):Str:=lD BB.1 i
theorem a0:S "_law_rows_of"=lD A 0:=rfl
theorem a1:S "found"=lD A 1:=rfl
theorem a2:S "n"=lD A 2:=rfl
theorem a3:S "isinstance"=lD A 3:=rfl
theorem a4:S "list"=lD A 4:=rfl
theorem a5:S "row"=lD A 5:=rfl
theorem a6:S "tuple"=lD A 6:=rfl
theorem a7:S "len"=lD A 7:=rfl
theorem a8:S "all"=lD A 8:=rfl
theorem a9:S "_law_whole"=lD A 9:=rfl
theorem Rk:S "one"=lD A 10:=rfl
theorem Qz:S ".0"=lD A 11:=rfl
theorem RA:S "_law_primes"=lD A 12:=rfl
theorem QR:S "fast"=lD A 13:=rfl
theorem Q3:S "_law_even"=lD A 14:=rfl
theorem PZ:S "load"=lD A 15:=rfl
theorem Vj:S "told"=lD A 16:=rfl
theorem Xq:S "paper"=lD A 17:=rfl
theorem XJ:S "even"=lD A 18:=rfl
theorem a19:S "_law_laid"=lD A 19:=rfl
theorem a20:S "_law_bar"=lD A 20:=rfl
theorem a21:S "blocks"=lD A 21:=rfl
theorem a22:S "bar"=lD A 22:=rfl
theorem a23:S "_law_numbers"=lD A 23:=rfl
theorem a24:S "p"=lD A 24:=rfl
theorem a25:S "hole"=lD A 25:=rfl
theorem a26:S "range"=lD A 26:=rfl
theorem a27:S "sum"=lD A 27:=rfl
theorem a28:S "k"=lD A 28:=rfl
theorem a29:S "block"=lD A 29:=rfl
theorem a30:S "_law_by"=lD A 30:=rfl
theorem a31:S "_law_sum"=lD A 31:=rfl
theorem a32:S "_law_refusal"=lD A 32:=rfl
theorem a33:S "none"=lD A 33:=rfl
theorem a34:S "other"=lD A 34:=rfl
theorem a35:S "counter"=lD A 35:=rfl
theorem a36:S "NoFit"=lD A 36:=rfl
theorem a37:S "e"=lD A 37:=rfl
theorem a38:S "fit"=lD A 38:=rfl
theorem a39:S "NoHole"=lD A 39:=rfl
theorem a40:S "NoName"=lD A 40:=rfl
theorem a41:S "NoNumber"=lD A 41:=rfl
theorem a42:S "NoQuotient"=lD A 42:=rfl
theorem a43:S "NoRing"=lD A 43:=rfl
theorem a44:S "NoRow"=lD A 44:=rfl
theorem a45:S "NoText"=lD A 45:=rfl
theorem a46:S "NoTurn"=lD A 46:=rfl
theorem a47:S "NoWheel"=lD A 47:=rfl
theorem a48:S "TooWide"=lD A 48:=rfl
theorem a49:S "wide"=lD A 49:=rfl
theorem a50:S "more"=lD A 50:=rfl
theorem a51:S "_law_refused_by_base"=lD A 51:=rfl
theorem a52:S "sure"=lD A 52:=rfl
theorem a53:S "HubError"=lD A 53:=rfl
theorem a54:S "ValueError"=lD A 54:=rfl
theorem a55:S "_law_other_size"=lD A 55:=rfl
theorem a56:S "cell"=lD A 56:=rfl
theorem a57:S "size"=lD A 57:=rfl
theorem a58:S "law"=lD A 58:=rfl
theorem a59:S "script"=lD A 59:=rfl
theorem a60:S "_law_cell_at"=lD A 60:=rfl
theorem a61:S "min"=lD A 61:=rfl
theorem a62:S "at"=lD A 62:=rfl
theorem a63:S "due"=lD A 63:=rfl
theorem a64:S "int"=lD A 64:=rfl
theorem a65:S "way"=lD A 65:=rfl
theorem a66:S "bool"=lD A 66:=rfl
theorem a67:S "many"=lD A 67:=rfl
theorem a68:S "weights"=lD A 68:=rfl
theorem a69:S "total"=lD A 69:=rfl
theorem a70:S "zip"=lD A 70:=rfl
theorem a71:S "number"=lD A 71:=rfl
theorem a72:S "modulus"=lD A 72:=rfl
theorem a73:S "append"=lD A 73:=rfl
theorem a74:S "rows"=lD A 74:=rfl
theorem a75:S "MOST_HOLES_COUNTERED"=lD A 75:=rfl
theorem a76:S "check_fit"=lD A 76:=rfl
theorem a77:S "counterweights are sought on wheels of at most "=lD A 77:=rfl
theorem a78:S " holes"=lD A 78:=rfl
theorem a79:S "holes"=lD A 79:=rfl
theorem a80:S "kept"=lD A 80:=rfl
theorem a81:S "reach"=lD A 81:=rfl
theorem a82:S "kept_rest"=lD A 82:=rfl
theorem a83:S "scaled"=lD A 83:=rfl
theorem a84:S "all_weighings"=lD A 84:=rfl
theorem a85:S "left"=lD A 85:=rfl
theorem a86:S "rest"=lD A 86:=rfl
theorem a87:S "outcome"=lD A 87:=rfl
theorem a88:S "plus"=lD A 88:=rfl
theorem a89:S "weighing"=lD A 89:=rfl
theorem a90:S "__name__"=lD A 90:=rfl
theorem a91:S "law_evenhub_k40_no_counterweights"=lD A 91:=rfl
theorem a92:S "leads_of"=lD A 92:=rfl
theorem a93:S "leads"=lD A 93:=rfl
theorem a94:S "hung"=lD A 94:=rfl
theorem a95:S "column"=lD A 95:=rfl
theorem a96:S "enumerate"=lD A 96:=rfl
theorem a97:S "entered"=lD A 97:=rfl
theorem a98:S "lead"=lD A 98:=rfl
theorem a99:S "euclid"=lD A 99:=rfl
theorem XE:S "mixed"=lD A 100:=rfl
theorem Wq:S "beyond"=lD A 101:=rfl
theorem Xd:S "barring"=lD A 102:=rfl
theorem Wn:S "amounts"=lD A 103:=rfl
theorem U7:S "place"=lD A 104:=rfl
theorem Vv:S "later"=lD A 105:=rfl
theorem U8:S "weighed"=lD A 106:=rfl
theorem WQ:S "inner_bar"=lD A 107:=rfl
theorem Xa:S "frame"=lD A 108:=rfl
theorem WB:S "evenhub.counters"=lD A 109:=rfl
theorem Vf:S "summed"=lD A 110:=rfl
theorem Xg:S "steps"=lD A 111:=rfl
theorem WA:S "counts"=lD A 112:=rfl
theorem XS:S "step"=lD A 113:=rfl
theorem XT:S "first_unbarred"=lD A 114:=rfl
theorem Wu:S "divides"=lD A 115:=rfl
theorem VT:S "sought"=lD A 116:=rfl
theorem WU:S "goal"=lD A 117:=rfl
theorem VG:S "prime"=lD A 118:=rfl
theorem Vl:S "Frame"=lD A 119:=rfl
theorem Vn:S "missed"=lD A 120:=rfl
theorem XN:S "sought_within"=lD A 121:=rfl
theorem V2:S "column_of"=lD A 122:=rfl
theorem VL:S "picked"=lD A 123:=rfl
theorem V5:S "chosen"=lD A 124:=rfl
theorem VR:S "goal_made"=lD A 125:=rfl
theorem V3:S "others"=lD A 126:=rfl
theorem UT:S "sought_with"=lD A 127:=rfl
theorem U6:S "made"=lD A 128:=rfl
theorem Wf:S "joint"=lD A 129:=rfl
theorem Xk:S "whole_counts"=lD A 130:=rfl
theorem XB:S "lessened"=lD A 131:=rfl
theorem Wl:S "taken"=lD A 132:=rfl
theorem WD:S "centred"=lD A 133:=rfl
theorem WP:S "spared"=lD A 134:=rfl
theorem WN:S "spread"=lD A 135:=rfl
theorem Vp:S "top"=lD A 136:=rfl
theorem Va:S "scale"=lD A 137:=rfl
theorem Vd:S "evenhub.steps"=lD A 138:=rfl
theorem U1:S "FIRST_PRIME"=lD A 139:=rfl
theorem Xs:S "is_shown"=lD A 140:=rfl
theorem Wx:S "next_prime"=lD A 141:=rfl
theorem VJ:S "parts"=lD A 142:=rfl
theorem Ve:S "taken_times"=lD A 143:=rfl
theorem V0:S "undone_rows"=lD A 144:=rfl
theorem XG:S "back"=lD A 145:=rfl
theorem Wo:S "solved"=lD A 146:=rfl
theorem Xc:S "undoing"=lD A 147:=rfl
theorem Xp:S "rests"=lD A 148:=rfl
theorem U0:S "is_solution"=lD A 149:=rfl
theorem Xi:S "count"=lD A 150:=rfl
theorem Wh:S "fractions"=lD A 151:=rfl
theorem Wk:S "bits"=lD A 152:=rfl
theorem V6:S "bit_length"=lD A 153:=rfl
theorem Vt:S "bottom"=lD A 154:=rfl
theorem Xb:S "least_bottom"=lD A 155:=rfl
theorem W1:S "abs"=lD A 156:=rfl
theorem Wi:S "flipped"=lD A 157:=rfl
theorem UW:S "corners"=lD A 158:=rfl
theorem Ww:S "cleared"=lD A 159:=rfl
theorem VW:S "first_filled"=lD A 160:=rfl
theorem UV:S "weight"=lD A 161:=rfl
theorem VS:S "less"=lD A 162:=rfl
theorem W4:S "is_kept"=lD A 163:=rfl
theorem VY:S "the hole isn't kept"=lD A 164:=rfl
theorem WK:S "q"=lD A 165:=rfl
theorem WT:S "factors"=lD A 166:=rfl
theorem V7:S "part_weighing"=lD A 167:=rfl
theorem VZ:S "share"=lD A 168:=rfl
theorem WG:S "kept_share"=lD A 169:=rfl
theorem VI:S "uneven"=lD A 170:=rfl
theorem VQ:S "evenhub.frames"=lD A 171:=rfl
theorem WI:S "__init__"=lD A 172:=rfl
theorem WW:S "self"=lD A 173:=rfl
theorem VP:S "columns"=lD A 174:=rfl
theorem W9:S "things"=lD A 175:=rfl
theorem Vi:S "places"=lD A 176:=rfl
theorem W8:S "numbers"=lD A 177:=rfl
theorem Vm:S "first_dropped"=lD A 178:=rfl
theorem VO:S "dropped"=lD A 179:=rfl
theorem UY:S "lay_ring"=lD A 180:=rfl
theorem Xe:S "evenhub.papers"=lD A 181:=rfl
theorem XF:S "evenhub.rings"=lD A 182:=rfl
theorem Wp:S "ring_holes"=lD A 183:=rfl
theorem Xv:S "evenhub.rests"=lD A 184:=rfl
theorem WX:S "the loads have unlike numbers of holes"=lD A 185:=rfl
theorem XU:S "evenhub.primes"=lD A 186:=rfl
theorem VA:S "prime_power"=lD A 187:=rfl
theorem Vg:S "the divisor of the step and the number isn't 1"=lD A 188:=rfl
theorem Vy:S "turned_on"=lD A 189:=rfl
theorem WR:S "pair"=lD A 190:=rfl
theorem U3:S "turn"=lD A 191:=rfl
theorem Ws:S "next_turn"=lD A 192:=rfl
theorem Vb:S "length"=lD A 193:=rfl
theorem U5:S "LEAD_BITS"=lD A 194:=rfl
theorem Xy:S "behind"=lD A 195:=rfl
theorem Vz:S "sure_turn"=lD A 196:=rfl
theorem VE:S "later_rest"=lD A 197:=rfl
theorem W3:S "new_rest"=lD A 198:=rfl
theorem Xr:S "further"=lD A 199:=rfl
theorem Vw:S "doubt"=lD A 200:=rfl
theorem XI:S "max"=lD A 201:=rfl
theorem WM:S "evenhub.loads"=lD A 202:=rfl
theorem Xu:S "evenhub.wholes"=lD A 203:=rfl
theorem UP:S "divisor"=lD A 204:=rfl
theorem XM:S "great"=lD A 205:=rfl
theorem Vh:S "small"=lD A 206:=rfl
theorem VH:S "evenhub.errors"=lD A 207:=rfl
theorem WC:S "/claim/cut.py"=lD A 208:=rfl
abbrev Ph (_ _:Program):Prop:=iG
theorem ph (a:Program):Ph a a:=trivial
set_option maxRecDepth 100000 in
noncomputable def G:List Str->Program:=by
 refine(?F:(g:List Str->Program)->Ph PySem.Challenge.pw_evenhub_k40_no_counterweights (g A)->List Str->Program) ?g ?h
 case h =>
  delta PySem.Challenge.pw_evenhub_k40_no_counterweights
  dsimp only[a0,a1,a2,a3,a4,a5,a6,a7,a8,a9,Rk,Qz,RA,QR,Q3,PZ,Vj,Xq,XJ,a19,a20,a21,a22,a23,a24,a25,a26,a27,a28,a29,a30,a31,a32,a33,a34,a35,a36,a37,a38,a39,a40,a41,a42,a43,a44,a45,a46,a47,a48,a49,a50,a51,a52,a53,a54,a55,a56,a57,a58,a59,a60,a61,a62,a63,a64,a65,a66,a67,a68,a69,a70,a71,a72,a73,a74,a75,a76,a77,a78,a79,a80,a81,a82,a83,a84,a85,a86,a87,a88,a89,a90,a91,a92,a93,a94,a95,a96,a97,a98,a99,XE,Wq,Xd,Wn,U7,Vv,U8,WQ,Xa,WB,Vf,Xg,WA,XS,XT,Wu,VT,WU,VG,Vl,Vn,XN,V2,VL,V5,VR,V3,UT,U6,Wf,Xk,XB,Wl,WD,WP,WN,Vp,Va,Vd,U1,Xs,Wx,VJ,Ve,V0,XG,Wo,Xc,Xp,U0,Xi,Wh,Wk,V6,Vt,Xb,W1,Wi,UW,Ww,VW,UV,VS,W4,VY,WK,WT,V7,VZ,WG,VI,VQ,WI,WW,VP,W9,Vi,W8,Vm,VO,UY,Xe,XF,Wp,Xv,WX,XU,VA,Vg,Vy,WR,U3,Ws,Vb,U5,Xy,Vz,VE,W3,Xr,Vw,XI,WM,Xu,UP,XM,Vh,VH,WC];generalize A=f;exact ph _
 case F=>exact fun g _=>g
end PwT
noncomputable def PySem.W.Fast.tw14394090407950982595:PySem.Program:=PwT.G PwT.BB.1
set_option maxRecDepth 100000 in
theorem PySem.W.Fast.te14394090407950982595:PySem.Challenge.pw_evenhub_k40_no_counterweights=PySem.W.Fast.tw14394090407950982595:=Eq.trans (b:=PwT.G PwT.A) ziX (cU PwT.G PwT.BB.2)
namespace Hd
open PySem PySem.W PwT PySem.W.Fast
abbrev PO:=Params->Obj
abbrev PB:=Params->BT
noncomputable abbrev LF:Life:=(PySem.Life.mk [] [] [] 0 [] [] Bool.false ⟨[]⟩ [] 0 Bool.false Bool.false Bool.false (Int.ofNat 0) [(Int.ofNat 2000),(Int.ofNat 10),(Int.ofNat 10)] Bool.false 0 Bool.true [] [] 0 Bool.false)
noncomputable def nN (a:PO)(l r:PB):PB:=fun P=>.node (a P) (l P) (r P)
noncomputable def nL (a:PO):PB:=fun P=>.node (a P) .nil .nil
noncomputable def nA (a:PO)(l:PB):PB:=fun P=>.node (a P) (l P) .nil
noncomputable abbrev TW:PySem.Program:=PySem.W.Fast.tw14394090407950982595
noncomputable def tp (i:Nat):PySem.Stmt:=TW.main.body.getD i (.Pass ⟨0,0,0,0⟩)
noncomputable abbrev E (P:Params)(q:PySem.Str)(t:Nat)(v:Value):DictEntry:=⟨PyData.keyHash P q,.str q t,v⟩
noncomputable abbrev I (n t:Nat):Value:=.int (Int.ofNat n) t
noncomputable abbrev l0:String:=SL.s2766695959194262286x5
noncomputable def o0:PO:=fun P=>Obj.mk (.type l0) none (.seq ⟨[]⟩ 0) ⟨[]⟩
noncomputable def o2:PO:=fun P=>Obj.mk .none none (.fields ⟨[]⟩) ⟨[]⟩
noncomputable abbrev l1:String:=SL.s5856160107412720595x4
noncomputable def ha (a:Str)(b:Nat)(c:Nat)(d:Nat):PO:=fun _=>Obj.mk (.type l1) none (.fields ⟨[(.str a b),(.str a (b+1)),(.str (p 208) (b+2)),(I c 0),(I 0 0),(I 0 0),(I 0 0),(I 0 0),(.ref d),(.bool Bool.false),(I 181 0),(.ref (d+1)),.none,.none,.none,.none,(I (b+3) 0),(I c 0),(.str (p 208) (b+4))]⟩) ⟨[]⟩
noncomputable def o3:PO:=ha (p 209) 182 1 11
noncomputable abbrev l2:String:=SL.s658472552662922059x5
noncomputable def hb (a:Nat)(b:Nat)(c:Str)(d:Nat):PO:=fun _=>Obj.mk (.type l2) none .plain ⟨[(some (.ref a)),(some (.ref 3)),(some (.ref b)),none,(some (.str c d)),none,(some (.ref 0))]⟩
noncomputable def o7:PO:=hb 13 3 (p 210) 164
noncomputable def Ta:PB:=(nN boot_o_0 (nN boot_o_1 (nN boot_o_3 (nL boot_o_7) (nL o0)) (nN boot_o_5 (nL boot_o_9) (nL o3))) (nN boot_o_2 (nN boot_o_4 (nL boot_o_8) (nL o2)) (nN boot_o_6 (nL boot_o_10) (nL o7))))
noncomputable def Z4 (w:PySem.World)(os:PySem.OsState):PySem.W.SharedT:=PySem.W.SharedT.mk (Ta w.params) 15 LF (Array.mk []) (PySem.Drawn.mk 0 0 0 0) 187 os
noncomputable def Tb:PB:=Ta
noncomputable def Q4 (w:PySem.World)(os:PySem.OsState):PySem.W.SharedT:=PySem.W.SharedT.mk (Tb w.params) 15 LF (Array.mk []) (PySem.Drawn.mk 0 0 0 0) 187 os
noncomputable def env:PySem.Env:={ scope:=TW.main.scope,locals:=PySem.mainNs,globals:=PySem.mainNs,cells:=[],code:=(.ref 13),frame:=some 14 }
noncomputable abbrev ann:Option PySem.Value:=(some (.ref 6))
noncomputable abbrev m0:Nat:=11
noncomputable abbrev Bs:List PySem.Frame:=[PySem.W.topFrame (PySem.Pos.mk 0 0 0 0)]
noncomputable abbrev cE:PySem.Code:=.body (behindTheImports TW) env
noncomputable abbrev PY:PySem.Pos:=(PySem.Pos.mk 0 0 0 0)
noncomputable abbrev posB:PySem.Pos:=(PySem.Pos.mk 0 0 0 0)
noncomputable abbrev kA:Nat:=12
noncomputable abbrev kB:Nat:=0
noncomputable abbrev kF:Nat:=1
noncomputable abbrev l3:String:=SL.s14018661285674007319x4
noncomputable abbrev l4:String:=SL.s7097527257260152453x26
noncomputable abbrev l5:String:=SL.s6070975301684473832x10
noncomputable abbrev l6:String:=SL.s11030030927630378310x26
noncomputable abbrev l7:String:=SL.s10062305145149207511x16
noncomputable abbrev l8:String:=SL.s17162191345867700912x4
noncomputable def Tv:PO:=fun P=>Obj.mk (.type l6) none (.fields ⟨[(.builtin l7),(.type l8)]⟩) ⟨[]⟩
noncomputable abbrev l9:String:=SL.s5946037652744460706x9
noncomputable abbrev ZN:String:=SL.s4278001404047624695x13
noncomputable abbrev TL:String:=SL.s2742458400755230247x6
noncomputable abbrev Z0:String:=SL.s4209523147560561109x18
noncomputable def ZL:PO:=fun P=>Obj.mk (.type l8) none (.cls (PySem.ClassData.mk (p 53) [(.type l5)] [(.ref 24),(.type l5),(.type l9),(.type ZN),(.type TL)] 23 (p 53) Bool.true [] [(.ref 37),(.ref 49),(.ref 61),(.ref 73),(.ref 85),(.ref 97),(.ref 109),(.ref 121),(.ref 133),(.ref 145),(.ref 157)] Bool.false none Bool.false)) ⟨[(some (.ref 15)),none,(some (.str (p 53) 189)),(some (.str (p 53) 197)),(some (.builtin Z0)),(some (.bool Bool.true))]⟩
noncomputable abbrev Xx:String:=SL.s14755015743595814543x17
noncomputable abbrev Z1:String:=SL.s10220274742760427390x26
noncomputable abbrev l15:String:=SL.s4290257624100764138x5
noncomputable def hc (a:Nat):PO:=fun _=>Obj.mk (.type l15) none (.fields ⟨[(.ref a),(.ref a),(.ref a)]⟩) ⟨[]⟩
noncomputable abbrev l16:String:=SL.s4860613602091757760x24
noncomputable def hd (a:Nat):PO:=fun _=>Obj.mk (.type l6) none (.fields ⟨[(.builtin l16),(.ref a)]⟩) ⟨[]⟩
noncomputable def o95:PO:=fun P=>Obj.mk (.type l0) none (.seq ⟨[(.ref 24)]⟩ 0) ⟨[]⟩
noncomputable def he (a:Str)(b:Nat)(c:Nat)(d:Nat)(e:Nat):PO:=fun _=>Obj.mk (.type l8) none (.cls (PySem.ClassData.mk a [(.ref 24)] [(.ref b),(.ref 24),(.type l5),(.type l9),(.type ZN),(.type TL)] c a Bool.true [] [] Bool.false none Bool.false)) ⟨[(some (.ref d)),none,(some (.str a e)),(some (.str a (e+8))),(some (.builtin Z0)),(some (.bool Bool.true))]⟩
noncomputable def hg (a:Str)(b:Nat):PO:=fun _=>Obj.mk .none none (.func { fnOf a a (L2.mZ (tp b)) (L2.mH (tp b)) (L2.kG (tp b)) .none .none .none .none none .none .none with globals:=0,builtins:=0 }) ⟨[]⟩
noncomputable def hh (a:Str)(b:Nat)(c:Str)(d:Nat)(e:Nat)(f:Nat)(g:Value)(h:Value)(i:Nat)(j:Nat):PO:=fun _=>Obj.mk (.type l1) none (.fields ⟨[(.str a b),(.str c (b+1)),(.str (p 208) (b+2)),(I d 0),(I e 0),(I 0 0),(I 0 0),(I 3 0),(.ref f),(.bool Bool.true),(I 181 0),(.ref (f+1)),.none,g,h,(.ref i),(I j 0),(I d 0),(.str (p 208) (j+1))]⟩) ⟨[]⟩
noncomputable abbrev VX:String:=SL.s7174869446012820540x8
noncomputable def hi (a:Str)(b:Nat)(c:Str)(d:Nat)(e:Nat):PO:=fun _=>Obj.mk (.type VX) none (.func (fnOf a a (L2.mZ (tp b)) (L2.mH (tp b)) (L2.kG (tp b)) .none .none .none (.str c d) none (.ref e) .none)) ⟨[]⟩
noncomputable def hj (a:Str)(b:Nat)(c:Str):PO:=fun _=>Obj.mk (.type l0) none (.seq ⟨[(.str a b),(.str c (b+1))]⟩ 0) ⟨[]⟩
noncomputable def hm (a:Str)(b:Nat)(c:Str)(d:Str):PO:=fun _=>Obj.mk (.type l0) none (.seq ⟨[(.str a b),(.str c (b+1)),(.str d (b+2))]⟩ 0) ⟨[]⟩
noncomputable def sv:Nat->List Nat->List Value
 | _,[]=>[]
 | t,x::l=>.str (p x) t::sv (t+1) l
abbrev DD:=List (Nat×Nat×Nat×List Nat)
noncomputable def gd (M m:Nat):Nat->Nat->Nat->DD->List PO->List PO
 | _,_,_,[],r=>r
 | i,a,t,(n,c,k,[])::l,r=>o0::o2::hg (p n) i::hh (p n) t (p n) c k a .none .none (a+2) (t+3)::hi (p n) i (p M) m (a+3)::gd M m (i+1) (a+5) (t+6) l r
 | i,a,t,(n,c,k,y::v)::l,r=>o0::o2::(fun _=>Obj.mk (.type l0) none (.seq ⟨sv (t+3) (y::v)⟩ 0) ⟨[]⟩)::o0::hg (p n) i::hh (p n) t (p n) c k a (.ref (a+2)) (.ref (a+3)) (a+4) (t+4+v.length)::hi (p n) i (p M) m (a+5)::gd M m (i+1) (a+7) (t+7+v.length) l r
noncomputable def gq (P:Params):Nat->Nat->DD->List DictEntry->List DictEntry
 | _,_,[],r=>r
 | a,t,(n,_,_,[])::l,r=>E P (p n) (t+5) (.ref (a+4))::gq P (a+5) (t+6) l r
 | a,t,(n,_,_,_::v)::l,r=>E P (p n) (t+6+v.length) (.ref (a+6))::gq P (a+7) (t+7+v.length) l r
noncomputable def gc:Nat->DD->List Value->List Value
 | _,[],r=>r
 | a,(_,c,_,[])::l,r=>I c 0::I 0 0 :: .ref (a+3)::gc (a+5) l r
 | a,(_,c,_,_::_)::l,r=>I c 0::I 0 0 :: .ref (a+5)::gc (a+7) l r
noncomputable def gx:Nat->Nat->Nat->List Nat->List PO->List PO
 | _,_,_,[],r=>r
 | a,t,c,n::l,r=>o95::Tv::(fun P=>Obj.mk (.type l3) none (.dict ⟨[E P (p 219) (t+7) (.str (p 207) 187),E P (p 220) (t+9) (.str (p n) (t+8)),E P (p 221) (t+11) (I c (t+10)),E P (p 222) (t+12) (.ref (a+7))]⟩ 4) ⟨[]⟩)::o0::o2::ha (p n) (t+2) c (a+3)::hb (a+5) (a+2) (p 207) 187::o0::(fun P=>Obj.mk (.type l3) none (.dict ⟨[E P (p 219) (t+7) (.str (p 207) 187),E P (p 221) (t+11) (I c (t+10)),E P (p 222) (t+12) (.ref (a+7)),E P (p 211) (t+13) .none]⟩ 2) ⟨[]⟩)::he (p n) (a+9) (a+8) a t::hc (a+9)::hd (a+9)::gx (a+12) (t+16) (c+2) l r
noncomputable def gy (P:Params):Nat->Nat->List Nat->List DictEntry->List DictEntry
 | _,_,[],r=>r
 | a,t,n::l,r=>E P (p n) (t+15) (.ref (a+9))::gy P (a+12) (t+16) l r
noncomputable def gw:Nat->Nat->List Nat->List Value->List Value
 | _,_,[],r=>r
 | a,c,_::l,r=>I c 0::I 0 0 :: .ref (a+5)::gw (a+12) (c+2) l r
noncomputable abbrev d0:DD:=[(204,28,2,[10,34,205,206,85]),(129,36,2,[10,34]),(99,38,3,[10,34,152,148,112,191]),(189,46,2,[190,191]),(192,48,2,[148,152,193,195,191]),(196,56,2,[86,197,191,67,198,199,200])]
noncomputable abbrev d1:DD:=[(94,70,3,[2,25,161,87]),(88,74,2,[]),(76,77,2,[10,34]),(83,80,2,[])]
noncomputable abbrev d2:DD:=[(142,83,1,[2,1,85,24,165]),(187,96,2,[2,24,165]),(145,101,2,[113,2,16])]
noncomputable abbrev d3:DD:=[(180,107,4,[15,24,25,67,104]),(183,110,3,[2,24,25,113])]
noncomputable abbrev d4:DD:=[(168,114,3,[2,165,25]),(163,116,2,[]),(178,118,2,[24,165]),(80,120,1,[]),(86,122,1,[15,2,85,74,24,165,25,67]),(179,133,3,[])]
noncomputable abbrev d5:DD:=[(106,137,2,[]),(89,140,2,[]),(167,149,3,[24,165,169,113,166]),(17,155,1,[15,16,25,161])]
noncomputable abbrev d6:DD:=[(123,183,2,[]),(135,185,3,[57,176,177,87,104,71]),(157,190,1,[]),(122,192,2,[]),(158,194,2,[111,118,1,71,113,85,95]),(159,202,3,[]),(160,207,1,[5,95,71]),(131,212,4,[]),(143,216,3,[]),(144,218,2,[]),(146,226,4,[]),(149,241,3,[]),(151,245,2,[]),(155,253,3,[71,137,152]),(133,255,2,[71,137,86])]
noncomputable abbrev d7:DD:=[(81,260,2,[111,117,118,16]),(141,267,1,[71,1]),(140,272,3,[111,117,16]),(110,276,3,[]),(114,281,2,[111,22,71,113]),(115,286,2,[72,71]),(116,290,3,[]),(121,299,3,[111,108,125,126,16,71]),(127,309,4,[]),(130,325,2,[]),(92,327,3,[]),(97,332,3,[]),(100,344,5,[]),(102,346,3,[93,95,72,103,104,98,105]),(107,353,2,[])]
noncomputable abbrev d8:DD:=[(35,358,2,[]),(82,369,2,[]),(84,372,3,[2,79,68,87,25,67])]
noncomputable abbrev d9:DD:=[(60,378,2,[59,28]),(9,382,1,[1]),(23,384,2,[]),(31,388,2,[5,68,69,10,67]),(30,393,2,[71,72]),(12,397,1,[2,1,24]),(19,407,2,[2,74,15,24,25,67,28,62]),(0,414,2,[]),(14,423,1,[15,16]),(20,428,3,[]),(32,442,2,[]),(51,458,2,[]),(55,465,2,[2,56,57]),(58,470,1,[])]
noncomputable abbrev e0:List Nat:=[46,36,48,43,39,47,41,42,45,40,44]
noncomputable def al:Bool->List PO->List PO
 | _,[]=>[]
 | true,x::l=>x::al false l
 | false,_::l=>al true l
noncomputable def bt:Nat->List PO->PB
 | k+1,x::l=>nN x (bt k (al true l)) (bt k (al false l))
 | _,_=>fun _=>.nil
noncomputable def u0:PO:=ha (p 209) 182 1 11
noncomputable def u1:PO:=hb 13 3 (p 210) 164
noncomputable def u2:PO:=fun P=>Obj.mk (.type l0) none (.seq ⟨[(.type l5)]⟩ 0) ⟨[]⟩
noncomputable def u3:PO:=fun P=>Obj.mk (.type l3) none (.dict ⟨[(E P (p 219) 196 (.str (p 207) 187)),(E P (p 220) 198 (.str (p 53) 197)),(E P (p 221) 200 (I 2 199)),(E P (p 222) 201 (.ref 22))]⟩ 4) ⟨[]⟩
noncomputable def u4:PO:=ha (p 53) 191 2 18
noncomputable def u5:PO:=hb 20 17 (p 207) 187
noncomputable def u6:PO:=fun P=>Obj.mk (.type l3) none (.dict ⟨[(E P (p 219) 196 (.str (p 207) 187)),(E P (p 221) 200 (I 2 199)),(E P (p 222) 201 (.ref 22)),(E P (p 223) 203 (.ref 25)),(E P (p 211) 204 .none)]⟩ 3) ⟨[]⟩
noncomputable def u7:PO:=fun P=>Obj.mk (.type Xx) none (.fields ⟨[(.str (p 223) 202),(.ref 24),(.builtin Z1),.none]⟩) ⟨[]⟩
noncomputable def o24:PO:=fun P=>Obj.mk (.type l3) none (.dict ⟨(E P (p 90) 165 (.str (p 182) 513))::(E P (p 211) 166 .none)::(E P (p 212) 167 .none)::(E P (p 213) 168 (.builtin l4))::(E P (p 214) 169 .none)::(E P (p 215) 170 (.ref 6))::(E P (p 216) 171 (.ref 4))::(E P (p 217) 173 (.str (p 208) 172))::(E P (p 218) 174 .none)::(E P (p 53) 206 (.ref 24))::gy P 28 207 e0 ((E P (p 194) 386 (I 128 385))::gq P 160 387 d0 (gq P 202 452 d1 (gq P 226 484 d2 ([]))))⟩ 35) ⟨[]⟩
noncomputable def o63:PO:=fun P=>Obj.mk .none none (.fields ⟨(I 2 0)::(I 0 0)::(.ref 20)::gw 28 4 e0 (gc 160 d0 (gc 202 d1 (gc 226 d2 ([]))))⟩) ⟨[]⟩
noncomputable def T0:PB:=bt 8 (boot_o_0::boot_o_1::boot_o_2::o24::boot_o_4::boot_o_5::boot_o_6::boot_o_7::boot_o_8::boot_o_9::boot_o_10::o0::o63::u0::u1::u2::Tv::u3::o0::o2::u4::u5::o0::u6::ZL::u7::(hc 24)::(hd 24)::gx 28 207 4 e0 (gd 203 383 15 160 387 d0 (gd 202 450 22 202 452 d1 (gd 186 482 27 226 484 d2 ([])))))
noncomputable def ZO (w:PySem.World)(os:PySem.OsState):PySem.W.SharedT:=PySem.W.SharedT.mk (T0 w.params) 247 LF (Array.mk []) (PySem.Drawn.mk 0 0 0 0) 515 os
noncomputable def hn (a:Str)(b:Str)(c:Nat):PO:=fun _=>Obj.mk .none none (.func { fnOf a b (L2.mZ (zbh (tp 46) c)) (L2.mH (zbh (tp 46) c)) (L2.kG (zbh (tp 46) c)) .none .none .none .none none .none .none with globals:=0,builtins:=0 }) ⟨[]⟩
noncomputable def ho (a:Str)(b:Str)(c:Nat)(d:Nat):PO:=fun _=>Obj.mk (.type VX) none (.func (fnOf a b (L2.mZ (zbh (tp 46) c)) (L2.mH (zbh (tp 46) c)) (L2.kG (zbh (tp 46) c)) .none .none .none (.str (p 171) 622) none (.ref d) .none)) ⟨[]⟩
noncomputable abbrev l18:String:=SL.s11443829558043349243x14
noncomputable abbrev l19:String:=SL.s6511155373996960695x17
noncomputable abbrev l20:String:=SL.s12411053484034534018x21
noncomputable def W7:PO:=fun P=>Obj.mk (.type l3) none (.dict ⟨(E P (p 90) 165 (.str (p 91) 945))::(E P (p 211) 166 .none)::(E P (p 212) 167 .none)::(E P (p 213) 168 (.builtin l4))::(E P (p 214) 169 .none)::(E P (p 215) 170 (.ref 6))::(E P (p 216) 171 (.ref 4))::(E P (p 217) 173 (.str (p 208) 172))::(E P (p 218) 174 .none)::(E P (p 53) 206 (.ref 24))::gy P 28 207 e0 ((E P (p 194) 386 (I 128 385))::gq P 160 387 d0 (gq P 202 452 d1 (gq P 226 484 d2 (gq P 247 515 d3 (gq P 261 538 d4 (gq P 297 589 d5 ((E P (p 119) 682 (.ref 356))::gq P 361 683 d6 ((E P (p 139) 798 (I 1000000007 797))::gq P 446 799 d7 ((E P (p 75) 920 (I 60 919))::gq P 535 921 d8 (gq P 552 947 d9 ([])))))))))))⟩ 97) ⟨[]⟩
noncomputable def W6:PO:=fun P=>Obj.mk .none none (.fields ⟨(I 2 0)::(I 0 0)::(.ref 20)::gw 28 4 e0 (gc 160 d0 (gc 202 d1 (gc 226 d2 (gc 247 d3 (gc 261 d4 (gc 297 d5 ((I 162 0)::(I 0 0)::(.ref 326)::gc 361 d6 (gc 446 d7 (gc 535 d8 (gc 552 d9 ([])))))))))))⟩) ⟨[]⟩
noncomputable def T1:PB:=bt 10 (boot_o_0::boot_o_1::boot_o_2::W7::boot_o_4::boot_o_5::boot_o_6::boot_o_7::boot_o_8::boot_o_9::boot_o_10::o0::W6::u0::u1::u2::Tv::u3::o0::o2::u4::u5::o0::u6::ZL::u7::(hc 24)::(hd 24)::gx 28 207 4 e0 (gd 203 383 15 160 387 d0 (gd 202 450 22 202 452 d1 (gd 186 482 27 226 484 d2 (gd 182 513 31 247 515 d3 (gd 184 536 34 261 538 d4 (gd 181 587 41 297 589 d5 (o0::Tv::(fun P=>Obj.mk (.type l3) none (.dict ⟨[(E P (p 219) 631 (.str (p 171) 622)),(E P (p 220) 633 (.str (p 119) 632)),(E P (p 221) 635 (I 162 634)),(E P (p 172) 641 (.ref 332)),(E P (p 120) 649 (.ref 339)),(E P (p 112) 657 (.ref 346)),(E P (p 68) 666 (.ref 353)),(E P (p 222) 675 (.ref 354))]⟩ 8) ⟨[]⟩)::o0::(fun P=>Obj.mk .none none (.fields ⟨[(I 164 0),(I 4 0),(.ref 331),(I 174 0),(I 4 0),(.ref 338),(I 177 0),(I 4 0),(.ref 345),(I 180 0),(I 4 0),(.ref 352)]⟩) ⟨[]⟩)::(ha (p 119) 626 162 324)::(hb 326 323 (p 171) 622)::o0::o2::(hn (p 172) (p 224) 0)::(hh (p 172) 636 (p 224) 164 4 328 .none .none 330 639)::(ho (p 172) (p 224) 0 331)::o0::o2::(hj (p 173) 645 (p 117))::o0::(hn (p 120) (p 225) 1)::(hh (p 120) 642 (p 225) 174 2 333 (.ref 335) (.ref 336) 337 647)::(ho (p 120) (p 225) 1 338)::o0::o2::(hj (p 173) 653 (p 117))::o0::(hn (p 112) (p 226) 2)::(hh (p 112) 650 (p 226) 177 2 340 (.ref 342) (.ref 343) 344 655)::(ho (p 112) (p 226) 2 345)::o0::o2::(hm (p 173) 661 (p 103) (p 16))::o0::(hn (p 68) (p 227) 3)::(hh (p 68) 658 (p 227) 180 2 347 (.ref 349) (.ref 350) 351 664)::(ho (p 68) (p 227) 3 352)::(fun P=>Obj.mk (.type l0) none (.seq ⟨[(.str (p 124) 667),(.str (p 174) 668),(.str (p 1) 669),(.str (p 72) 670),(.str (p 118) 671),(.str (p 74) 672),(.str (p 57) 673),(.str (p 147) 674)]⟩ 0) ⟨[]⟩)::(fun P=>Obj.mk (.type l3) none (.dict ⟨[(E P (p 219) 631 (.str (p 171) 622)),(E P (p 221) 635 (I 162 634)),(E P (p 172) 641 (.ref 332)),(E P (p 120) 649 (.ref 339)),(E P (p 112) 657 (.ref 346)),(E P (p 68) 666 (.ref 353)),(E P (p 222) 675 (.ref 354)),(E P (p 228) 677 (.ref 357)),(E P (p 223) 679 (.ref 358)),(E P (p 211) 680 .none)]⟩ 4) ⟨[]⟩)::(fun P=>Obj.mk (.type l8) none (.cls (PySem.ClassData.mk (p 119) [(.type TL)] [(.ref 356),(.type TL)] 355 (p 119) Bool.true [] [] Bool.false none Bool.false)) ⟨[none,none,(some (.str (p 119) 624)),(some (.str (p 119) 632)),(some (.builtin l18)),(some (.bool Bool.true))]⟩)::(fun P=>Obj.mk (.type Xx) none (.fields ⟨[(.str (p 228) 676),(.ref 356),(.builtin l19),(.builtin l20)]⟩) ⟨[]⟩)::(fun P=>Obj.mk (.type Xx) none (.fields ⟨[(.str (p 223) 678),(.ref 356),(.builtin Z1),.none]⟩) ⟨[]⟩)::(hc 356)::(hd 356)::gd 171 622 47 361 683 d6 (gd 138 795 64 446 799 d7 (gd 109 917 81 535 921 d8 (gd 91 945 85 552 947 d9 ([]))))))))))))
noncomputable def ZK (w:PySem.World)(os:PySem.OsState):PySem.W.SharedT:=PySem.W.SharedT.mk (T1 w.params) 638 LF (Array.mk []) (PySem.Drawn.mk 0 0 0 0) 1057 os
noncomputable def Tf:PB:=T1
noncomputable def TH (w:PySem.World)(os:PySem.OsState):PySem.W.SharedT:=PySem.W.SharedT.mk (Tf w.params) 638 LF (Array.mk []) (PySem.Drawn.mk 0 0 0 0) 1057 os
noncomputable abbrev AS:List PySem.Addr:=List.range' 0 16++[22,23,24,25,28,35,36,37,40,47,48,49,52,59,60,61,64,71,72,73,76,83,84,85,88,95,96,97,100,107,108,109,112,119,120,121,124,131,132,133,136,143,144,145,148,155,156,157]++List.range' 160 161++List.range' 328 31++List.range' 361 277
noncomputable def KF:Params->Frag:=fun P=>AS.map fun a=>(a,((Tf P).get a).getD (o0 P))
noncomputable abbrev keep:List Nat:=[1,2,3,4,5,6,7,8,9,10,11,12,14,15,16,17,18,19,20,22,23,24,25,27,28,29,31,32,34,35,36,37,38,39,41,42,43,44,46,47,48,49,50,51,52,53,54,55,56,57,58,59,60,61,63,64,65,66,67,68,69,70,71,72,73,74,75,76,77,78,80,81,82,83,85,86,87,88,89,90,91,92,93,94,95,96,97,98]
noncomputable abbrev loose:List PySem.Str:=[]
noncomputable abbrev NG:List PySem.Stmt:=((behindTheImports TW).drop 0).take 31
noncomputable abbrev RM:PySem.Pos:=(PySem.Pos.mk 106 0 106 8)
noncomputable abbrev MY:List PySem.Stmt:=((behindTheImports TW).drop 31).take 68
noncomputable abbrev Qs:PySem.Pos:=(PySem.Pos.mk 470 0 495 36)
theorem pre (w:World):(fun os=>topGo treeTable TW w m0 ann kA ⟨boot_heap w.params,Array.mk [],boot_drawn,boot_toks,os⟩ (topStub TW))=fun os=>some ((Z4 w os).abs,⟨denote treeTable cE,cE,PY,Bs⟩):=by
 rw[te15667345088766844465,te14364793385576792824,te11892475500146522536]
 kernel_rfl
theorem blk (w:World):(fun os=>segRunT treeTable TW w m0 ann 1 (kB+1) (Z4 w os) (blockOf (behindTheImports TW) env cE PY Bs))=fun os=>some (Flow.next,Q4 w os,cE,posB):=by
 rw[te10110043849684766642,te14364793385576792824]
 kernel_rfl
theorem pc0 (w:World):(fun os=>segRunT treeTable TW w m0 ann 1 2988 (Q4 w os) (piecesOf NG env cE posB Bs))=fun os=>some (Flow.next,ZO w os,cE,RM):=by
 rw[te10110043849684766642,te14364793385576792824]
 kernel_rfl
theorem pc1 (w:World):(fun os=>segRunT treeTable TW w m0 ann 1 2098 (ZO w os) (piecesOf MY env cE RM Bs))=fun os=>some (Flow.next,ZK w os,cE,Qs):=by
 rw[te10110043849684766642,te14364793385576792824]
 kernel_rfl
theorem fin (w:World):(fun os=>topRun treeTable TW w m0 ann (kF+1) (ZK w os).abs ⟨doneF Flow.next,cE,Qs,Bs⟩)=fun os=>some (TH w os).abs:=by
 rw[te14082659384304107361,te14364793385576792824]
 kernel_rfl
theorem cut:behindTheImports TW=NG++(MY++[]):=by kernel_rfl
theorem rest (w:World)(os:OsState):topRun treeTable TW w m0 ann (2988+(2098+(kF+1))) (Q4 w os).abs (restOf (behindTheImports TW) env cE posB Bs)=some (TH w os).abs:=by
 have h:topRun treeTable TW w m0 ann (2988+(2098+(kF+1))) (Q4 w os).abs (restOf (NG++(MY++[])) env cE posB Bs)=some (TH w os).abs:=piece_app (segRun_of (iO (pc0 w) os)) (piece_app (segRun_of (iO (pc1 w) os)) (piece_nil (iO (fin w) os)));exact(cU (fun b=>topRun treeTable TW w m0 ann (2988+(2098+(kF+1))) (Q4 w os).abs (restOf b env cE posB Bs)) cut).trans h
theorem run (w:World)(os:OsState):topRun treeTable TW w m0 ann (kA+(kB+1+(2988+(2098+(kF+1))))) ⟨boot_heap w.params,Array.mk [],boot_drawn,boot_toks,os⟩ (topStub TW)=some (TH w os).abs:=go_top (iO (pre w) os) (piece_block (segRun_of (iO (blk w) os)) (rest w os))
theorem opn:opening TW=plainProg TW.main.scope.names:=by
 kernel_rfl
theorem fence (s:Shared):fenceModules? TW s=some s:=by
 try rw[te14289696077712309145]
 kernel_rfl
theorem size (w:World):((boot_heap w.params).isNs mainGlobals && (Array.mk []:Array GenState).size == 0,(boot_heap w.params).objs.size,(boot_heap w.params).nsMap mainGlobals "__annotations__")=(true,m0,ann):=by
 try rw[te8920871248978507458]
 kernel_rfl
noncomputable abbrev Q:PySem.Program:=view TW keep
noncomputable def Hf (P:Params):Heap:=absHeap (Tf P) 638 LF
noncomputable abbrev Xt (s:Shared):Bool:=xlAt Q [] s && recOk (RowW.records (OpenRow.toRowW (OpenLaw.row PySem.Challenge.rw_evenhub_k40_no_counterweights))) s
noncomputable abbrev Os (w:World)(os:OsState):=openSeen Q loose (importedModules TW.main.body) Xt true ⟨Hf w.params,(Array.mk []),(PySem.Drawn.mk 0 0 0 0),1057,os⟩
theorem lk0 (w:World)(os:OsState):(staticsOk (importedModules TW.main.body) (boot_heap w.params) (Hf w.params) && namesBound TW (Hf w.params) && gensDone ⟨Hf w.params,(Array.mk []),(PySem.Drawn.mk 0 0 0 0),1057,os⟩ && laidKept (boot_heap w.params) (Hf w.params))=true:=by
 rw[te5923862056798008813];kernel_rfl
theorem lq0 (w:World)(os:OsState):(Os w os).1=(openGood Q loose).1:=by
 unfold Os openSeen openGood;dsimp only;rw[te5160383126252970620,te3399658132070893891,te5991557255702980513];kernel_rfl
theorem lq1 (w:World)(os:OsState):(Os w os).2.1=(openGood Q loose).2.1:=by
 unfold Os openSeen openGood;dsimp only
 kernel_rfl
theorem lq2 (w:World)(os:OsState):(Os w os).2.2.1=(openGood Q loose).2.2.1:=by
 unfold Os openSeen openGood;dsimp only;rw[te5923862056798008813,te3399658132070893891,te10880121769531294198,te821141287760084731,te7409074990110511671,te13664370479719496447,te14722251495701143533,te10994771534591457954];kernel_rfl
theorem lq3 (w:World)(os:OsState):(Os w os).2.2.2.1=(openGood Q loose).2.2.2.1:=by
 unfold Os openSeen openGood;dsimp only;rw[te479339242167458305];kernel_rfl
theorem lq4 (w:World)(os:OsState):(Os w os).2.2.2.2.1=(openGood Q loose).2.2.2.2.1:=by
 unfold Os openSeen openGood;dsimp only;rw[te16090120013241838585,te3247288618530077131];kernel_rfl
theorem lq5 (w:World)(os:OsState):(Os w os).2.2.2.2.2.1=(openGood Q loose).2.2.2.2.2.1:=by
 unfold Os openSeen openGood;dsimp only;rw[te821141287760084731,te2386780881361962483];kernel_rfl
theorem lq6 (w:World)(os:OsState):(Os w os).2.2.2.2.2.2.1=(openGood Q loose).2.2.2.2.2.2.1:=by
 unfold Os openSeen openGood;dsimp only;rw[te11698064438423848299];kernel_rfl
theorem lq7 (w:World)(os:OsState):(Os w os).2.2.2.2.2.2.2.1=(openGood Q loose).2.2.2.2.2.2.2.1:=by
 unfold Os openSeen openGood;dsimp only;rw[te7317090234206586261];kernel_rfl
theorem lq8 (w:World)(os:OsState):(Os w os).2.2.2.2.2.2.2.2=(openGood Q loose).2.2.2.2.2.2.2.2:=by
 unfold Os openSeen openGood;dsimp only;rw[te7369524293546568484];kernel_rfl
theorem lk1 (w:World)(os:OsState):Os w os=openGood Q loose:=gk (lq0 w os) ( gk (lq1 w os) ( gk (lq2 w os) ( gk (lq3 w os) ( gk (lq4 w os) ( gk (lq5 w os) ( gk (lq6 w os) ( gk (lq7 w os) (lq8 w os))))))))
theorem lk2 (w:World)(os:OsState):X.obsZ AS ⟨Hf w.params,(Array.mk []),(PySem.Drawn.mk 0 0 0 0),1057,os⟩=X.valZ KF 638 1057 w:=by kernel_rfl
theorem left:LeftO TW Q loose Xt (X.obsZ AS) (X.valZ KF 638 1057) 10294 :=
 LeftO.of_pieces (H₀:=boot_heap) (H₁:=Hf) (gs₀:=Array.mk []) (gs₁:=(Array.mk [])) (d₀:=boot_drawn) (d₁:=(PySem.Drawn.mk 0 0 0 0)) (k₀:=boot_toks) (k₁:=1057) (m₀:=m0) (ann:=ann) (M:=kA+(kB+1+(2988+(2098+(kF+1)))))
  (boot_open opn kd fence) size run kd (fun w=>funext fun os=>looks_pair (lk0 w os) (looks_pair (lk1 w os) (lk2 w os)))
theorem oU:LeftO PySem.Challenge.pw_evenhub_k40_no_counterweights (view PySem.Challenge.pw_evenhub_k40_no_counterweights keep) loose (fun s=>xlAt (view PySem.Challenge.pw_evenhub_k40_no_counterweights keep) [] s && recOk (RowW.records (OpenRow.toRowW (OpenLaw.row PySem.Challenge.rw_evenhub_k40_no_counterweights))) s) (X.obsZ AS) (X.valZ KF 638 1057) 10294:=by
 rw[te14394090407950982595];exact left
end Hd
theorem PySem.W.X.walkX_of {q:PySem.Program}{loose:List PySem.Str}{XP:(PySem.Str->Option PySem.Value)->PySem.Heap->Prop}{K:PySem.Params->zdg}{as:List PySem.Addr}{n t:Nat}{r:PySem.W.RowW}{d:PySem.DefRec}{kwd:List (PySem.Str×PySem.Expr)}{run:PySem.Value->List PySem.Value->PySem.Sem PySem.Value}
  (e:∀P,as=(K P).map (·.1))(W:PySem.W.WalkO q loose XP (fun w h=>(K w.params).In h) r d kwd run):PySem.W.WalkX q loose XP (PySem.W.X.obsZ as) (PySem.W.X.valZ K n t) r d kwd run :=
 fun w s₀ s₁ mg mb G y a o pm cd doc dV kV ho hd vP hD OD hg args vals asx L Gk R1 hrd RZ zD =>
  W w s₀ s₁ mg mb G (PySem.W.InK.keeps w _ _ (PySem.W.X.z_facts e y).2.1 L.keeps) a o pm cd doc dV kV ho hd vP hD OD hg args vals asx Gk R1 hrd RZ zD
namespace Hd
open PySem PySem.W L2
variable {K:Frag}{x m q:Str}{st:Stmt}{C:Addr}{v:Option (Option Value)}
def aV:Option (Option Value)->Addr
 | some (some (.ref f))=>f
 | _=>0
def mV (K:Frag)(f:Addr):Value:=match K.lookup f with
 | some ⟨_,_,.func d,_⟩=>d.pyModule
 | _=>.none
abbrev FQ (K:Frag)(x q:Str)(st:Stmt)(v:Option (Option Value)):Prop:=(v,K.lookup (aV v),codeIn K (.ref (aV v-1)) q,keepIn K (.ref (aV v)),isFn K (.ref (aV v)))=(some (some (.ref (aV v))),some ⟨(.type VX),none,.func (fnOf x q (mZ st) (mH st) (kG st) .none .none .none (mV K (aV v)) none (.ref (aV v-1)) .none),⟨[]⟩⟩,true,true,true)
theorem fA (e:FQ K x x st (nsIn K mainGlobals x):=by delta FQ;kernel_rfl):Fa K x st:=by
 simp only[Prod.mk.injEq] at e;exact .of e.1 e.2.1 e.2.2.1 e.2.2.2.1
theorem fM (e:FQ K m q st (findIn K (.ref C) m):=by delta FQ;kernel_rfl):Fm K C m q st:=by
 simp only[Prod.mk.injEq] at e;exact .of e.1 e.2.2.2.2 e.2.1 e.2.2.1 e.2.2.2.1
end Hd
open PySem PySem.W PySem.W.X PyProof.Rows Hd PwT in
set_option maxRecDepth 100000 in
set_option maxHeartbeats 0 in
theorem PySem.Challenge.cw_evenhub_k40_no_counterweights_holds : PySem.Challenge.rw_evenhub_k40_no_counterweights.Holds := by
 w_on;o_law
 refine holds_openX (q:=(view PySem.Challenge.pw_evenhub_k40_no_counterweights keep)) (loose:=loose) (Xt:=fun s=>xlAt (view PySem.Challenge.pw_evenhub_k40_no_counterweights keep) [] s && recOk (RowW.records (OpenRow.toRowW (OpenLaw.row PySem.Challenge.rw_evenhub_k40_no_counterweights))) s) (XP:=XL (view PySem.Challenge.pw_evenhub_k40_no_counterweights keep) []) (Yf:=X.obsZ AS) (Ya:=X.valZ KF 638 1057) (N:=10294) oU (fun s e=>xl_of s (gi.mp e).1) XL.keeps kf kf kf (fun s e=>recFacts_of (gi.mp e).2) kf (by first | assumption | decide +kernel) kd ⟨Z,Z,Z,Z,Z,kd⟩ ?hw ?hc
 case hw=>w_witness2
 refine PySem.W.X.walkX_of (fun _=>by kernel_rfl) (K40.walk (l:=PySem.Challenge.rw_evenhub_k40_no_counterweights) Z Z (fun w h Y=>Y) ?F);intro w mg fa h KX G OD;refine K40.all_mk (CF:=356) (cN:=fun i=>[24,49,61,85,145,109,121,73,157,133,37,97,385,797,919].getD i 0) KX G OD ?_ fA;constructor<;>first | refine L2.Fa.dn fA KX G ?_ | exact mg_of KX G ziX | exact mg_none_of KX G ziX | refine L2.Fm.mn fM ?_ | refine L2.Fm.kn fM ziX ziX (mg_of KX G ziX) ?_ | exact L2.Gp.mk ziX ziX ziX ziX | exact L2.yh.mk ziX ziX ziX ziX ziX ziX ziX | (show _=_;kernel_rfl)
 all_goals first | exact L2.ZM Z fun _ _ _ _ _ _ _=>Z | exact L2.ba2 Z fun _ _ _ _ _ _ _ _=>Z | exact L2.ba3 Z fun _ _ _ _ _ _ _ _ _=>Z | exact L2.ba4 Z fun _ _ _ _ _ _ _ _ _ _=>Z | exact L2.ba5 Z fun _ _ _ _ _ _ _ _ _ _ _=>Z
