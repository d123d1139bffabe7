import PyProof.Rows.All
import Wide.All
import OpenK.AllK
import Wide.FinOn
import Lean
import PyProof.EqAt
import PyProof.EqKinds
import PyProof.TupleCall
import KE.KMinKey
import PySem.Challenge.RW_evenhub_k46_whole_settings
set_option Elab.async false
set_option linter.all false
set_option maxRecDepth 100000
namespace L2
open PySem PySem.Spec PyProof.Rows
abbrev Key := Sum Int Str
def keyIs : Key → Value → Bool
  | .inl k, v => Value.isInt k v
  | .inr x, v => Value.isStrOf x v
def keyH (w : World) : Key → Int
  | .inl k => hashInt k
  | .inr x => hashStr w x
theorem keyIs_shape : ∀ {k : Key} {v : Value}, keyIs k v = true → (∃ i t, k = Sum.inl i ∧ v = Value.int i t) ∨ (∃ x t, k = Sum.inr x ∧ v = Value.str x t)
  | .inl i, v, h => by
    obtain ⟨t, e⟩ := Value.isInt_shape (k := i) (v := v) h
    exact .inl ⟨i, t, rfl, e⟩
  | .inr x, v, h => by
    obtain ⟨t, e⟩ := Value.isStrOf_shape (x := x) (v := v) h
    exact .inr ⟨x, t, rfl, e⟩
theorem key_ll (a b : Int) : decide ((Sum.inl a : Key) = Sum.inl b) = (a == b) := by
  by_cases e : a = b
  · subst e; simp
  · have h : ¬ (Sum.inl a : Key) = Sum.inl b := fun q => e (Sum.inl.inj q)
    rw [decide_eq_false h]
    exact (beq_eq_false_iff_ne.mpr e).symm
theorem key_rr (a b : Str) : decide ((Sum.inr a : Key) = Sum.inr b) = decide (a = b) := by
  by_cases e : a = b
  · subst e; simp
  · have h : ¬ (Sum.inr a : Key) = Sum.inr b := fun q => e (Sum.inr.inj q)
    rw [decide_eq_false h, decide_eq_false e]
theorem key_lr (a : Int) (b : Str) : decide ((Sum.inl a : Key) = Sum.inr b) = false := decide_eq_false (fun q => nomatch q)
theorem key_rl (a : Str) (b : Int) : decide ((Sum.inr a : Key) = Sum.inl b) = false := decide_eq_false (fun q => nomatch q)

def mixKind (prog : Program) (w : World) : PySem.KeyKind prog w Key where
  is := keyIs
  hash := keyH w
  inj := fun v a b ha hb => by
    rcases keyIs_shape ha with ⟨i, t, rfl, rfl⟩ | ⟨x, t, rfl, rfl⟩
    · rcases keyIs_shape hb with ⟨j, u, rfl, e⟩ | ⟨y, u, rfl, e⟩
      · injection e with e1 _; rw [e1]
      · exact nomatch e
    · rcases keyIs_shape hb with ⟨j, u, rfl, e⟩ | ⟨y, u, rfl, e⟩
      · exact nomatch e
      · injection e with e1 _; rw [e1]
  byValue := fun k v h => by
    rcases keyIs_shape h with ⟨i, t, rfl, rfl⟩ | ⟨x, t, rfl, rfl⟩ <;> rfl
  pyHash := fun hv h => by
    rcases keyIs_shape hv with ⟨i, t, rfl, rfl⟩ | ⟨x, t, rfl, rfl⟩
    · exact wpAny_pyHash_int h
    · exact wpAny_pyHash_str h
  eqBool := fun hu hv h => by
    rcases keyIs_shape hu with ⟨i, t, rfl, rfl⟩ | ⟨x, t, rfl, rfl⟩
    · rcases keyIs_shape hv with ⟨j, u, rfl, rfl⟩ | ⟨y, u, rfl, rfl⟩
      · rw [key_ll] at h; exact wpAny_eqBool_int h
      · rw [key_lr] at h; exact SeqAt.EqAt.int_str i t y u _ _ _ _ h
    · rcases keyIs_shape hv with ⟨j, u, rfl, rfl⟩ | ⟨y, u, rfl, rfl⟩
      · rw [key_rl] at h; exact SeqAt.EqAt.str_int x t j u _ _ _ _ h
      · rw [key_rr] at h; exact wpAny_eqBool_str h
  «strs» := fun k x t v h => by
    rcases keyIs_shape h with ⟨i, u, rfl, e⟩ | ⟨y, u, rfl, e⟩
    · exact nomatch e
    · injection e with e1 _
      subst e1
      cases v <;> rfl

end L2
namespace L2
open PySem PySem.Spec PyProof.Rows
inductive V where
  | non | bl (b : Bool) | int (i : Int) | str (x : Str) | byt (b : Array UInt8) | flt (b : UInt64) | ref (a : Addr) | ty (n : String)
  deriving DecidableEq

def RelV : V → Value → Prop
  | .non, u => u = Value.none
  | .bl b, u => u = Value.bool b
  | .int i, u => ∃ t, u = Value.int i t
  | .str x, u => ∃ t, u = Value.str x t
  | .byt b, u => ∃ t, u = Value.bytes b t
  | .flt b, u => ∃ t, u = Value.float b t
  | .ref a, u => u = Value.ref a
  | .ty n, u => u = Value.type n

abbrev Vals : List V → List Value → Prop := Paired RelV
theorem Vals.length {xs : List V} {us : List Value} (r : Vals xs us) : xs.length = us.length := Paired.length r
theorem Vals.get : ∀ {xs : List V} {us : List Value} {i : Nat} {x : V}, Vals xs us → xs[i]? = some x → ∃ u, us[i]? = some u ∧ RelV x u
  | _, _, _, _, .nil, e => by simp at e
  | _, _, 0, _, .cons r _, e => by simp at e; subst e; exact ⟨_, rfl, r⟩
  | _, _, i + 1, x, .cons _ t, e => by
    obtain ⟨u, h1, h2⟩ := Vals.get (i := i) (x := x) t (by simpa using e)
    exact ⟨u, by simpa using h1, h2⟩
theorem Vals.set {x : V} {u : Value} (r : RelV x u) : ∀ {xs : List V} {us : List Value} (i : Nat), Vals xs us → Vals (xs.set i x) (us.set i u)
  | _, _, _, .nil => .nil
  | _, _, 0, .cons _ t => .cons r t
  | _, _, i + 1, .cons q t => .cons q (Vals.set r i t)
theorem Vals.append : ∀ {xs ys : List V} {us ws : List Value}, Vals xs us → Vals ys ws → Vals (xs ++ ys) (us ++ ws)
  | _, _, _, _, .nil, s => s
  | _, _, _, _, .cons r t, s => .cons r (Vals.append t s)
theorem Vals.take : ∀ {xs : List V} {us : List Value} (n : Nat), Vals xs us → Vals (xs.take n) (us.take n)
  | _, _, 0, _ => .nil
  | _, _, _ + 1, .nil => .nil
  | _, _, n + 1, .cons r t => .cons r (Vals.take n t)
theorem Vals.drop : ∀ {xs : List V} {us : List Value} (n : Nat), Vals xs us → Vals (xs.drop n) (us.drop n)
  | _, _, 0, r => r
  | _, _, _ + 1, .nil => .nil
  | _, _, n + 1, .cons _ t => Vals.drop n t
def RelO : Option V → Option Value → Prop
  | some v, some u => RelV v u
  | none, none => True
  | _, _ => False
def KV {κ : Type} : List (κ × V) → List (κ × Value) → Prop := Paired fun (p : κ × V) (q : κ × Value) => p.1 = q.1 ∧ RelV p.2 q.2

def kV : Key → V
  | .inl i => .int i
  | .inr x => .str x

inductive HO where
  /-- a list -/
  | lst (xs : List V)
  /-- a tuple (never changes) -/
  | tup (xs : List V)
  /-- a dict whose keys are ints and texts; one whose keys are tuples of ints and texts (the empty one is both) -/
  | dK (kvs : List (Key × V)) | dT (kvs : List (List Key × V))
  /-- a set of ints: its members, its size -/
  | set (S : Int → Bool) (n : Nat)
  /-- an instance of the class at C, its dict at dx, its attributes -/
  | ins (C dx : Addr) (fs : List (Str × V))
  /-- the dict of the instance at x -/
  | own (x : Addr)
  /-- the dict of an exception -/
  | xd (fs : List (Str × V))
  /-- a bound method, f of x -/
  | met (f x : Addr)
  /-- a range object lo, lo + 1, .. below hi -/
  | rng (lo hi : Int)
  /-- a thing that is known to the object (the script; a dict while a loop walks it): read, never written while it is so -/
  | frz (o : Obj) (u : HO)
  /-- a code object's table -/
  | tbl (ps : Array Value)
  /-- any other thing, by what is true of its one object (a def of one's own: SetO a S n := HO.ext fun h => ..) -/
  | ext (φ : Heap → Prop)

abbrev Hp := Addr → Option HO
def upd (H : Hp) (a : Addr) (o : HO) : Hp := fun b => if b = a then some o else H b
theorem upd_same {H : Hp} {a : Addr} {o : HO} : upd H a o a = some o := by unfold upd; rw [if_pos rfl]
theorem upd_ne {H : Hp} {a b : Addr} {o : HO} (h : b ≠ a) : upd H a o b = H b := by unfold upd; rw [if_neg h]
theorem ne_of {H : Hp} {a b : Addr} {o u : HO} (h : H a = some o) (h' : H b = some u) (d : o ≠ u) : a ≠ b := by
  intro e; subst e; rw [h] at h'; exact d (Option.some.inj h')
theorem ne_of_none {H : Hp} {a b : Addr} {o : HO} (h : H a = some o) (h' : H b = none) : a ≠ b := by
  intro e; subst e; rw [h] at h'; cases h'

section
variable (P : Program) (w : World)
def ObjOk (H : Hp) (h : Heap) (a : Addr) : HO → Prop
  | .lst xs => xs.length ≤ sizeLine ∧ ∃ (its : List Value) (n : Nat), Vals xs its ∧ h.get? a = some { cls := .type "list", data := .seq its.toArray n }
  | .tup xs => xs.length ≤ sizeLine ∧ ∃ its : List Value, Vals xs its ∧ IsTup h a its.toArray
  | .dK kvs => kvs.length ≤ sizeLine ∧ (a == sysModules) = false ∧ ∃ vs, KV kvs vs ∧ h.DictOf (mixKind P w) a vs
  | .dT kvs => kvs.length ≤ sizeLine ∧ (a == sysModules) = false ∧ ∃ xs : List (List Key × Addr × Value),
      Paired (fun (p : List Key × V) (q : List Key × Addr × Value) => p.1 = q.1 ∧ H q.2.1 = some (.tup (p.1.map kV)) ∧ RelV p.2 q.2.2) kvs xs ∧
      ∃ o es ep, h.get? a = some o ∧ o.ExactDict ∧ o.data = .dict es ep ∧ es.toList = xs.map (entryOfKey (tupleKind (mixKind P w))) ∧ (xs.map (·.1)).Nodup
  | .set S n => h.SetOf (intKind P w) a S n
  | .ins C dx fs => H dx = some (.own a) ∧ fs.length ≤ 1000 ∧ dx ≠ a ∧ h.get? a = some (PySem.W.instObj C dx) ∧
      ∃ mA, h.Ns1 dx mA ∧ (∀ f, RelO (fs.lookup f) (mA f)) ∧ PySem.Within mA (fs.map (·.1))
  | .own _ => ∃ o, h.get? a = some o
  | .xd fs => ∃ mA, h.Ns1 a mA ∧ ∀ f, RelO (fs.lookup f) (mA f)
  | .rng lo hi => ∃ t u v, h.get? a = some { cls := .type "range", data := .fields #[.int lo t, .int hi u, .int 1 v] }
  | .frz o u => h.get? a = some o ∧ ObjOk H h a u
  | .tbl ps => h.get? a = some { cls := .none, data := .fields ps }
  | .met f x => h.get? a = some (PySem.W.methodObj (.ref f) (.ref x))
  | .ext φ => φ h ∧ (∃ o, h.get? a = some o) ∧ ∀ h1 h2 : Heap, φ h1 → (∀ o, h1.get? a = some o → h2.get? a = some o) → φ h2
def HOk (H : Hp) (h : Heap) : Prop := ∀ a o, H a = some o → ObjOk P w H h a o
end
section
variable {P : Program} {w : World} {H H' : Hp} {h h' : Heap} {a : Addr} {o : HO}
theorem ObjOk.lt (x : ObjOk P w H h a o) : a < h.objs.size := by
  cases o with
  | lst xs => obtain ⟨_, _, _, _, e⟩ := x; exact Heap.lt_size e
  | tup xs => obtain ⟨_, _, _, p⟩ := x; exact p.lt
  | dK kvs => obtain ⟨_, _, _, _, o, _, _, e, _⟩ := x; exact Heap.lt_size e
  | dT kvs => obtain ⟨_, _, _, _, o, _, _, e, _⟩ := x; exact Heap.lt_size e
  | set S n => obtain ⟨o, _, _, _, e, _⟩ := x; exact Heap.lt_size e
  | ins C dx fs => obtain ⟨_, _, _, e, _⟩ := x; exact Heap.lt_size e
  | own y => obtain ⟨_, e⟩ := x; exact Heap.lt_size e
  | xd fs => obtain ⟨_, ⟨_, _, _, e, _⟩, _⟩ := x; exact Heap.lt_size e
  | rng lo hi => obtain ⟨_, _, _, e⟩ := x; exact Heap.lt_size e
  | frz ob u => obtain ⟨e, _⟩ := x; exact Heap.lt_size e
  | tbl ps => exact Heap.lt_size (show h.get? a = some _ from x)
  | met f y => exact Heap.lt_size (show h.get? a = some _ from x)
  | ext φ => obtain ⟨_, ⟨_, e⟩, _⟩ := x; exact Heap.lt_size e
theorem Paired.mapP {α β : Type} {F G : α → β → Prop} : ∀ {l₁ : List α} {l₂ : List β}, Paired F l₁ l₂ → (∀ a b, F a b → G a b) → Paired G l₁ l₂
  | _, _, .nil, _ => .nil
  | _, _, .cons r t, f => .cons (f _ _ r) (Paired.mapP t f)
theorem ObjOk.stay (x : ObjOk P w H h a o) (k : ∀ b u, (b = a ∨ H b = some (.own a)) → h.get? b = some u → h'.get? b = some u)
    (ho : ∀ b, H b = some (.own a) → H' b = some (.own a)) (ht : ∀ b xs, H b = some (.tup xs) → H' b = some (.tup xs)) : ObjOk P w H' h' a o := by
  induction o with
  | lst xs => obtain ⟨z, its, n, r, e⟩ := x; exact ⟨z, its, n, r, k _ _ (.inl rfl) e⟩
  | tup xs => obtain ⟨z, its, r, ob, e, c⟩ := x; exact ⟨z, its, r, ob, k _ _ (.inl rfl) e, c⟩
  | dK kvs => obtain ⟨z, y, vs, r, ob, es, ep, e, c⟩ := x; exact ⟨z, y, vs, r, ob, es, ep, k _ _ (.inl rfl) e, c⟩
  | dT kvs =>
    obtain ⟨z, y, xs, r, ob, es, ep, e, c⟩ := x
    exact ⟨z, y, xs, Paired.mapP r fun p q z => ⟨z.1, ht _ _ z.2.1, z.2.2⟩, ob, es, ep, k _ _ (.inl rfl) e, c⟩
  | set S n => obtain ⟨ob, es, ep, t, e, c⟩ := x; exact ⟨ob, es, ep, t, k _ _ (.inl rfl) e, c⟩
  | ins C dx fs =>
    obtain ⟨d, z, ne, e, mA, ⟨od, es, ep, e2, c⟩, r⟩ := x
    exact ⟨ho _ d, z, ne, k _ _ (.inl rfl) e, mA, ⟨od, es, ep, k _ _ (.inr d) e2, c⟩, r⟩
  | own y => obtain ⟨ob, e⟩ := x; exact ⟨ob, k _ _ (.inl rfl) e⟩
  | xd fs => obtain ⟨mA, ⟨od, es, ep, e, c⟩, r⟩ := x; exact ⟨mA, ⟨od, es, ep, k _ _ (.inl rfl) e, c⟩, r⟩
  | rng lo hi => obtain ⟨t, u, v, e⟩ := x; exact ⟨t, u, v, k _ _ (.inl rfl) e⟩
  | frz ob u ih => obtain ⟨e, q⟩ := x; exact ⟨k _ _ (.inl rfl) e, ih q⟩
  | tbl ps =>
    have e : h.get? a = some { cls := .none, data := .fields ps } := x
    show h'.get? a = some { cls := .none, data := .fields ps }
    exact k a _ (.inl rfl) e
  | met f y =>
    have e : h.get? a = some (PySem.W.methodObj (.ref f) (.ref y)) := x
    show h'.get? a = some (PySem.W.methodObj (.ref f) (.ref y))
    exact k a _ (.inl rfl) e
  | ext φ => obtain ⟨p, ⟨o, e⟩, st⟩ := x; exact ⟨st _ _ p fun o q => k _ _ (.inl rfl) q, ⟨o, k _ _ (.inl rfl) e⟩, st⟩
theorem HOk.lt (x : HOk P w H h) (e : H a = some o) : a < h.objs.size := (x a o e).lt
theorem HOk.fresh (x : HOk P w H h) (e : h.objs.size ≤ a) : H a = none := by
  cases q : H a with
  | none => rfl
  | some u => exact absurd (Nat.lt_of_lt_of_le (x.lt q) e) (Nat.lt_irrefl _)
theorem HOk.kept (x : HOk P w H h) (k : ∀ b u, h.get? b = some u → h'.get? b = some u) : HOk P w H h' := fun a o e =>
  (x a o e).stay (fun b u _ q => k b u q) (fun _ q => q) fun _ _ q => q
theorem HOk.laid (x : HOk P w H h) (k : ∀ b u, h.get? b = some u → h'.get? b = some u) (hp : h.objs.size ≤ a) (new : ObjOk P w (upd H a o) h' a o) : HOk P w (upd H a o) h' := fun b u e => by
  have hn := x.fresh hp
  by_cases hb : b = a
  · subst hb; rw [upd_same] at e; cases e; exact new
  · rw [upd_ne hb] at e
    exact (x b u e).stay (fun c v _ q => k c v q) (fun c q => by rw [upd_ne (ne_of_none q hn)]; exact q) fun c xs q => by rw [upd_ne (ne_of_none q hn)]; exact q
end
def Rd (H : Hp) (a : Addr) (u : HO) : Prop := H a = some u ∨ ∃ o, H a = some (.frz o u)
theorem Rd.of {H : Hp} {a : Addr} {u : HO} (h : H a = some u) : Rd H a u := .inl h
theorem Rd.ok {P : Program} {w : World} {H : Hp} {h : Heap} {a : Addr} {u : HO} (r : Rd H a u) (x : HOk P w H h) : ObjOk P w H h a u := by
  rcases r with r | ⟨o, r⟩
  · exact x a u r
  · obtain ⟨_, q⟩ := x a _ r
    exact q
def Mut : Option HO → Prop
  | some (.lst _) => True
  | some (.dK _) => True
  | some (.dT _) => True
  | some (.set _ _) => True
  | some (.ins _ _ _) => True
  | some (.ext _) => True
  | _ => False
section
variable {P : Program} {w : World} {H : Hp} {h h' : Heap} {x e : Addr} {o' : HO}
theorem HOk.write (ok : HOk P w H h) (mu : Mut (H x)) (he : e = x ∨ H e = some (.own x)) (k : ∀ b u, b ≠ e → h.get? b = some u → h'.get? b = some u) (heo : ∃ u, h'.get? e = some u)
    (new : ObjOk P w (upd H x o') h' x o') : HOk P w (upd H x o') h' := fun b u q => by
  have nown : ∀ c y, H c = some (.own y) → c ≠ x := fun c y r z => by subst z; rw [r] at mu; exact mu
  have ntup : ∀ c xs, H c = some (.tup xs) → c ≠ x := fun c xs r z => by subst z; rw [r] at mu; exact mu
  by_cases hb : b = x
  · subst hb; rw [upd_same] at q; cases q; exact new
  · rw [upd_ne hb] at q
    by_cases hbe : b = e
    · have q' : H b = some (.own x) := by
        rcases he with z | z
        · exact absurd (hbe.trans z) hb
        · rw [hbe]; exact z
      rw [q] at q'; cases q'
      obtain ⟨v, hv⟩ := heo
      exact ⟨v, by rw [hbe]; exact hv⟩
    · refine (ok b u q).stay (fun c v hc r => k c v ?_ r) (fun c r => by rw [upd_ne (nown c b r)]; exact r) fun c xs r => by rw [upd_ne (ntup c xs r)]; exact r
      rcases hc with rfl | hc
      · exact hbe
      · rintro rfl
        rcases he with z | z
        · exact nown c b hc z
        · rw [hc] at z; cases z; exact hb rfl
end
structure Un (fs ex : List Addr) (H H' : Hp) (h h' : Heap) : Prop where
  keep : ∀ b o, h.get? b = some o → H b = none → b ∉ fs → b ∉ ex → h'.get? b = some o
  slot : ∀ b o, h.get? b = some o → H b = none → b ∈ fs → b ∉ ex → ∃ sl, h'.get? b = some { o with slots := sl }
  free : ∀ b o, h.get? b = some o → H b = none → b ∉ ex → H' b = none
  there : ∀ b o, h.get? b = some o → b ∉ ex → ∃ o', h'.get? b = some o'
  tups : ∀ b xs, H b = some (.tup xs) → H' b = some (.tup xs)
  frzs : ∀ b o u, H b = some (.frz o u) → H' b = some (.frz o u)
  tbls : ∀ b ps, H b = some (.tbl ps) → ∃ more, H' b = some (.tbl (ps ++ more))
section
variable {fs fs' ex ex' : List Addr} {H H1 H2 : Hp} {h h1 h2 h' : Heap} {a x e : Addr} {o : HO}
theorem Un.any (u : Un fs ex H H1 h h1) {b : Addr} {ob : Obj} (q : h.get? b = some ob) (n : H b = none) (hx : b ∉ ex) : ∃ sl, h1.get? b = some { ob with slots := sl } := by
  by_cases hb : b ∈ fs
  · exact u.slot b ob q n hb hx
  · exact ⟨ob.slots, u.keep b ob q n hb hx⟩
theorem Un.trans (a : Un fs ex H H1 h h1) (b : Un fs ex H1 H2 h1 h2) : Un fs ex H H2 h h2 where
  keep := fun c ob q n hc hx => b.keep c ob (a.keep c ob q n hc hx) (a.free c ob q n hx) hc hx
  slot := fun c ob q n hc hx => by
    obtain ⟨sl, e1⟩ := a.slot c ob q n hc hx
    obtain ⟨sl', e2⟩ := b.slot c _ e1 (a.free c ob q n hx) hc hx
    exact ⟨sl', e2⟩
  free := fun c ob q n hx => by
    obtain ⟨o', e1⟩ := a.there c ob q hx
    exact b.free c o' e1 (a.free c ob q n hx) hx
  there := fun c ob q hx => by
    obtain ⟨o', e1⟩ := a.there c ob q hx
    exact b.there c o' e1 hx
  tups := fun c xs q => b.tups c xs (a.tups c xs q)
  frzs := fun c ob xs q => b.frzs c ob xs (a.frzs c ob xs q)
  tbls := fun c ps q => by
    obtain ⟨m1, e1⟩ := a.tbls c ps q
    obtain ⟨m2, e2⟩ := b.tbls c _ e1
    exact ⟨m1 ++ m2, by rw [e2, Array.append_assoc]⟩
theorem Un.kept (k : ∀ b u, h.get? b = some u → h'.get? b = some u) : Un fs ex H H h h' :=
  ⟨fun b ob q _ _ _ => k b ob q, fun b ob q _ _ _ => ⟨ob.slots, k b ob q⟩, fun _ _ _ n _ => n, fun b ob q _ => ⟨ob, k b ob q⟩, fun _ _ q => q, fun _ _ _ q => q, fun _ ps q => ⟨#[], by rw [q]; simp⟩⟩
theorem Un.refl : Un fs ex H H h h := Un.kept fun _ _ q => q
theorem Un.laid (k : ∀ b u, h.get? b = some u → h'.get? b = some u) (hp : h.objs.size ≤ a) (hn : H a = none) : Un fs ex H (upd H a o) h h' where
  keep := fun b u q _ _ _ => k b u q
  slot := fun b u q _ _ _ => ⟨u.slots, k b u q⟩
  free := fun b u q n _ => by rw [upd_ne (Nat.ne_of_lt (Nat.lt_of_lt_of_le (Heap.lt_size q) hp))]; exact n
  there := fun b u q _ => ⟨u, k b u q⟩
  tups := fun b xs q => by rw [upd_ne (ne_of_none q hn)]; exact q
  frzs := fun b u xs q => by rw [upd_ne (ne_of_none q hn)]; exact q
  tbls := fun b ps q => ⟨#[], by rw [upd_ne (ne_of_none q hn), q]; simp⟩
theorem Un.write (mu : Mut (H x)) (he : e = x ∨ H e = some (.own x)) (k : ∀ b u, b ≠ e → h.get? b = some u → h'.get? b = some u) (heo : ∃ u, h'.get? e = some u) : Un fs ex H (upd H x o) h h' := by
  have hx : ∀ b, H b = none → b ≠ x := fun b n z => by subst z; rw [n] at mu; exact mu
  have hb : ∀ b, H b = none → b ≠ e := fun b n z => by
    subst z
    rcases he with r | r
    · exact hx b n r
    · rw [n] at r; cases r
  have hm : ∀ b u, H b = some u → ¬ Mut (some u) → b ≠ x := fun b u q nm z => by subst z; rw [q] at mu; exact nm mu
  refine ⟨fun b u q n _ _ => k b u (hb b n) q, fun b u q n _ _ => ⟨u.slots, k b u (hb b n) q⟩, fun b u q n _ => by rw [upd_ne (hx b n)]; exact n, fun b u q _ => ?_,
    fun b xs q => by rw [upd_ne (hm b _ q fun z => z)]; exact q, fun b u xs q => by rw [upd_ne (hm b _ q fun z => z)]; exact q, fun b ps q => ⟨#[], by rw [upd_ne (hm b _ q fun z => z), q]; simp⟩⟩
  by_cases hbe : b = e
  · subst hbe; exact heo
  · exact ⟨u, k b u hbe q⟩
theorem Un.mono (u : Un fs ex H H1 h h1) (hs : ∀ b ∈ fs, b ∈ fs') (hx : ∀ b ∈ ex, b ∈ ex') : Un fs' ex' H H1 h h1 :=
  ⟨fun b ob q n hb he => u.keep b ob q n (fun z => hb (hs b z)) fun z => he (hx b z), fun _ _ q n _ he => u.any q n fun z => he (hx _ z), fun b ob q n he => u.free b ob q n fun z => he (hx b z), fun b ob q he => u.there b ob q fun z => he (hx b z), u.tups, u.frzs, u.tbls⟩
end
def trk (h : Heap) (H : Hp) : List Addr := (List.range h.objs.size).filter fun a => (H a).isSome
def hidT (h : Heap) (H : Hp) : Heap := PySem.W.hideAll h (trk h H)
theorem hidT_size (h : Heap) (H : Hp) : (hidT h H).objs.size = h.objs.size := PySem.W.hideAll_size _ _
theorem hidT_get {h : Heap} {H : Hp} {b : Addr} {o : Obj} (e : h.get? b = some o) (n : H b = none) : (hidT h H).get? b = some o :=
  PySem.W.hideAll_get _ e fun hm => by
    have q : (H b).isSome = true := (List.mem_filter.mp hm).2
    rw [n] at q; simp at q
theorem of_hidT {h : Heap} {H : Hp} {b : Addr} {o : Obj} (e : (hidT h H).get? b = some o) : h.get? b = some o ∧ H b = none := by
  have e' : h.get? b = some o := PySem.W.of_hideAll (trk h H) e
  refine ⟨e', ?_⟩
  cases q : H b with
  | none => rfl
  | some x =>
    have hm : b ∈ trk h H := List.mem_filter.mpr ⟨List.mem_range.mpr (Heap.lt_size e'), by simp [q]⟩
    have z : (hidT h H).get? b = none := PySem.W.hideAll_none (trk h H) hm
    rw [z] at e; cases e

def allNews (g h : Heap) (L : Addr) : List (Addr × Obj) := (List.range h.objs.size).filterMap fun a => if a = L ∨ (g.get? a).isSome = true then none else (h.get? a).map fun o => (a, o)
def rest (g h : Heap) (L d : Addr) : List (Addr × Obj) := (allNews g h L).filter fun p => decide (p.1 ≠ d)
end L2
namespace L2
open PySem PySem.Spec PyProof.Rows
structure Mod (K : PySem.W.Frag) (mg : Str → Option Value) (base : Heap) : Prop where
  kin : K.In base
  glob : base.Ns mainGlobals mg
  blt : ∃ mb, base.Ns builtinsNs mb ∧ ∀ x : Str, x ≠ "__name__" → mb x = bootBuiltins x
  nolimit : base.NoLimit

structure Cx where
  prog : Program
  w : World
  K : PySem.W.Frag
  mg : Str → Option Value
  base : Heap
  A : Around
  N : List Str
  s₀ : Shared
  H₀ : Hp
  env : Env
  outer : List Env
  stack : List Env
  ex : List Addr
  fn : Str → Bool
  calm : Bool
  pn : List (Addr × Obj)
  xe : Value → Shared → Prop
def frs (l : List Env) : List Addr := l.filterMap (·.frame)
abbrev Cx.fs (X : Cx) : List Addr := frs X.outer

def Vis (sc : Scope) (x : Str) : Prop := sc.names.lookup x = some .local ∨ sc.names.lookup x = some .cell ∨ sc.names.lookup x = some .free
def Loc (sc : Scope) (x : Str) : Prop := sc.names.lookup x = some .local ∨ sc.names.lookup x = some .cell
def Look (env : Env) (h : Heap) (m : Str → Option Value) (x : Str) (u : Value) : Prop :=
  (env.kindOf x = some .local ∧ m x = some u) ∨ ((env.kindOf x = some .cell ∨ env.kindOf x = some .free) ∧ ∃ c, env.cells.lookup x = some c ∧ h.IsCell c (some u))

structure Cx.Ok (X : Cx) : Prop where
  mod : Mod X.K X.mg X.base
  kind : X.env.scope.kind = .function
  glob : X.env.globals = mainGlobals
  blt : X.env.builtins = builtinsNs
  above : X.s₀.heap.objs.size ≤ X.env.locals
  inj : ∀ x y c, X.env.cells.lookup x = some c → X.env.cells.lookup y = some c → x = y
  has : ∀ x, (X.env.kindOf x = some .cell ∨ X.env.kindOf x = some .free) → ∃ c, X.env.cells.lookup x = some c
  cab : ∀ x c, X.fn x = true → X.env.cells.lookup x = some c → X.s₀.heap.objs.size ≤ c
  hd : X.calm = true → X.A.handled = none
  frames : X.A.frames = some X.stack
  stk : X.stack = X.outer ∨ (X.stack = X.env :: X.outer ∧ X.env.frame = some X.env.locals)
  exf : ∀ b ∈ X.ex, b ≠ X.env.locals ∧ ∀ x c, X.env.cells.lookup x = some c → c ≠ b
  bs : ∀ b o, X.base.get? b = some o → X.s₀.heap.get? b = some o ∧ X.H₀ b = none
  bsz : X.base.objs.size ≤ X.s₀.heap.objs.size
  noex : ∀ b o, X.base.get? b = some o → b ∉ X.ex
  exfs : ∀ b ∈ X.ex, b ∉ X.fs
  funs : X.s₀.heap.FunFrames X.base X.outer
  frf : ∀ b ∈ X.fs, X.H₀ b = none

structure Inv (X : Cx) (pins : List (Addr × Obj)) (σ : List (Option V)) (H : Hp) (s : Shared) : Prop where
  ok : X.Ok
  os : s.os = X.s₀.os
  bare : AllBare s.gens
  base : Un X.fs X.ex X.H₀ H X.s₀.heap s.heap
  loc : ∃ m, s.heap.Ns X.env.locals m ∧ ∀ (i : Nat) (x : Str) (v : V), X.N[i]? = some x → σ[i]? = some (some v) → Vis X.env.scope x → ∃ u, RelV v u ∧ Look X.env s.heap m x u
  cell : ∀ x c, X.env.cells.lookup x = some c → ∃ v, s.heap.IsCell c v
  free : H X.env.locals = none
  freeC : ∀ x c, X.env.cells.lookup x = some c → H c = none
  pin : ∀ p ∈ X.pn ++ pins, s.heap.get? p.1 = some p.2 ∧ H p.1 = none ∧ p.1 ≠ X.env.locals ∧ p.1 ∉ X.fs ∧ ∀ v, p.2.data ≠ .cell v
  hok : HOk X.prog X.w H s.heap
  len : σ.length = X.N.length

section
variable {X : Cx} {pins : List (Addr × Obj)} {σ : List (Option V)} {H H' : Hp} {s : Shared} {h' : Heap}
theorem Cx.Ok.nofr (ok : X.Ok) {b : Addr} {o : Obj} (e : X.base.get? b = some o) : b ∉ X.fs := fun hb => by
  have := (ok.funs.mem hb).1
  rw [e] at this; cases this
theorem Inv.bs (I : Inv X pins σ H s) : ∀ b o, X.base.get? b = some o → s.heap.get? b = some o ∧ H b = none := fun b o e =>
  ⟨I.base.keep b o (I.ok.bs b o e).1 (I.ok.bs b o e).2 (I.ok.nofr e) (I.ok.noex b o e), I.base.free b o (I.ok.bs b o e).1 (I.ok.bs b o e).2 (I.ok.noex b o e)⟩
theorem Inv.bk (I : Inv X pins σ H s) : ∀ b o, X.base.get? b = some o → s.heap.get? b = some o := fun b o e => (I.bs b o e).1
theorem Inv.mod (I : Inv X pins σ H s) : Mod X.K X.mg X.base := I.ok.mod
theorem Inv.kIn (I : Inv X pins σ H s) : X.K.In s.heap := I.ok.mod.kin.keeps I.bk
theorem Inv.nolimit (I : Inv X pins σ H s) : s.heap.NoLimit := I.ok.mod.nolimit.keeps I.bk
theorem Inv.fr (I : Inv X pins σ H s) : ∃ m, Fr X.base X.env.locals s.heap m :=
  let ⟨m, hn, _⟩ := I.loc
  ⟨m, hn, I.bk, Nat.le_trans I.ok.bsz I.ok.above⟩
theorem Inv.lt (I : Inv X pins σ H s) : X.env.locals < s.heap.objs.size := let ⟨_, hn, _⟩ := I.loc; hn.lt
theorem Inv.sz (I : Inv X pins σ H s) : X.s₀.heap.objs.size ≤ s.heap.objs.size := Nat.le_trans I.ok.above (Nat.le_of_lt I.lt)
theorem Inv.nofs (I : Inv X pins σ H s) {a : Addr} (h : s.heap.objs.size ≤ a) : a ∉ X.fs := fun hb => by
  obtain ⟨_, o, ho, _⟩ := I.ok.funs.mem hb
  exact absurd (Nat.lt_of_lt_of_le (Heap.lt_size ho) (Nat.le_trans I.sz h)) (Nat.lt_irrefl _)
theorem Inv.cne (I : Inv X pins σ H s) : ∀ x c, X.env.cells.lookup x = some c → c ≠ X.env.locals := fun x c e z => by
  obtain ⟨v, o, ho, hd⟩ := I.cell x c e
  obtain ⟨m, ⟨o', es, ep, ho', hd', _⟩, _⟩ := I.loc
  rw [z, ho'] at ho; cases ho; rw [hd'] at hd; cases hd
theorem Inv.funs (I : Inv X pins σ H s) : s.heap.FunFrames X.base X.outer := by
  have all : ∀ (l : List Env), (∀ b ∈ frs l, b ∈ X.fs) → X.s₀.heap.FunFrames X.base l → s.heap.FunFrames X.base l := by
    intro l
    induction l with
    | nil => intro _ _; trivial
    | cons env r ih =>
      intro hs hl
      obtain ⟨hk, ⟨L, o, hf, hn, ho, hd⟩, hr⟩ := hl
      have hL : L ∈ X.fs := hs L (by unfold frs; rw [List.filterMap_cons, hf]; exact List.mem_cons_self)
      obtain ⟨sl, e⟩ := I.base.slot L o ho (I.ok.frf L hL) hL fun z => I.ok.exfs L z hL
      exact ⟨hk, ⟨L, _, hf, hn, e, hd⟩, ih (fun b hb => hs b (by unfold frs; rw [List.filterMap_cons, hf]; exact List.mem_cons_of_mem _ hb)) hr⟩
  exact all X.outer (fun _ hb => hb) I.ok.funs

theorem Inv.stack (I : Inv X pins σ H s) : s.heap.FunFrames X.base X.stack := by
  rcases I.ok.stk with e | ⟨e, hf⟩
  · rw [e]; exact I.funs
  · rw [e]
    obtain ⟨m, hn, _⟩ := I.loc
    refine .cons (by rw [I.ok.kind]; decide) hf hn ?_ I.funs
    exact Heap.get?_none_of_le (Nat.le_trans I.ok.bsz I.ok.above)
theorem Inv.stkSub (I : Inv X pins σ H s) : ∀ b ∈ frs X.stack, b ∈ X.env.locals :: X.fs := fun b hb => by
  rcases I.ok.stk with e | ⟨e, hf⟩
  · rw [e] at hb; exact List.mem_cons_of_mem _ hb
  · rw [e] at hb
    unfold frs at hb
    rw [List.filterMap_cons, hf] at hb
    exact hb
theorem Inv.stkFree (I : Inv X pins σ H s) : ∀ b ∈ frs X.stack, H b = none := fun b hb => by
  rcases List.mem_cons.mp (I.stkSub b hb) with e | hb
  · rw [e]; exact I.free
  · obtain ⟨_, o, ho, _⟩ := I.ok.funs.mem hb
    exact I.base.free b o ho (I.ok.frf b hb) fun z => I.ok.exfs b z hb

theorem Inv.step {g' : Array GenState} {t' : Nat} {d' : Drawn} {ch : List Addr} (I : Inv X pins σ H s)
    (hch : ∀ b ∈ ch, (b ∈ X.ex ∨ X.s₀.heap.objs.size ≤ b) ∧ b ≠ X.env.locals ∧ (∀ x c, X.env.cells.lookup x = some c → c ≠ b) ∧ ∀ p ∈ X.pn ++ pins, p.1 ≠ b)
    (keep : ∀ b o, b ≠ X.env.locals → b ∉ X.fs → b ∉ ch → s.heap.get? b = some o → H b = none → h'.get? b = some o)
    (slot : ∀ b o, b ≠ X.env.locals → b ∈ X.fs → b ∉ ch → s.heap.get? b = some o → H b = none → ∃ sl, h'.get? b = some { o with slots := sl }) (free : ∀ b o, b ∉ ch → s.heap.get? b = some o → H b = none → H' b = none)
    (there : ∀ b o, b ∉ ch → s.heap.get? b = some o → ∃ o', h'.get? b = some o')
    (tups : ∀ b xs, H b = some (.tup xs) → H' b = some (.tup xs)) (frzs : ∀ b o u, H b = some (.frz o u) → H' b = some (.frz o u)) (tbls : ∀ b ps, H b = some (.tbl ps) → ∃ more, H' b = some (.tbl (ps ++ more)))
    (ns : ∀ m, s.heap.Ns X.env.locals m → h'.Ns X.env.locals m) (hok : HOk X.prog X.w H' h') (hg : AllBare g') :
    Inv X pins σ H' { s with heap := h', gens := g', drawn := d', toks := t' } := by
  have neL : ∀ b o, X.s₀.heap.get? b = some o → b ≠ X.env.locals := fun b o e => Nat.ne_of_lt (Nat.lt_of_lt_of_le (Heap.lt_size e) I.ok.above)
  have neC : ∀ b o, X.s₀.heap.get? b = some o → b ∉ X.ex → b ∉ ch := fun b o e hx hb => by
    rcases (hch b hb).1 with z | z
    · exact hx z
    · exact absurd (Nat.lt_of_lt_of_le (Heap.lt_size e) z) (Nat.lt_irrefl _)
  have cellK : ∀ x c, X.env.cells.lookup x = some c → ∀ v, s.heap.IsCell c v → h'.IsCell c v := fun x c e v ⟨o, ho, hd⟩ => by
    have nch : c ∉ ch := fun z => (hch c z).2.2.1 x c e rfl
    by_cases hc : c ∈ X.fs
    · obtain ⟨sl, q⟩ := slot c o (I.cne x c e) hc nch ho (I.freeC x c e)
      exact ⟨_, q, hd⟩
    · exact ⟨o, keep c o (I.cne x c e) hc nch ho (I.freeC x c e), hd⟩
  refine ⟨I.ok, I.os, hg, ⟨fun b o e n hb hx => ?_, fun b o e n hb hx => ?_, fun b o e n hx => ?_, fun b o e hx => ?_, fun b xs e => tups b xs (I.base.tups b xs e), fun b o xs e => frzs b o xs (I.base.frzs b o xs e), fun b ps e => ?_⟩, ?_, fun x c e => ?_, ?_, fun x c e => ?_, fun p hp => ?_, hok, I.len⟩
  · exact keep b o (neL b o e) hb (neC b o e hx) (I.base.keep b o e n hb hx) (I.base.free b o e n hx)
  · obtain ⟨sl, e1⟩ := I.base.slot b o e n hb hx
    obtain ⟨sl', e2⟩ := slot b _ (neL b o e) hb (neC b o e hx) e1 (I.base.free b o e n hx)
    exact ⟨sl', e2⟩
  · obtain ⟨o', e1⟩ := I.base.there b o e hx
    exact free b o' (neC b o e hx) e1 (I.base.free b o e n hx)
  · obtain ⟨o', e1⟩ := I.base.there b o e hx
    exact there b o' (neC b o e hx) e1
  · obtain ⟨m1, e1⟩ := I.base.tbls b ps e
    obtain ⟨m2, e2⟩ := tbls b _ e1
    exact ⟨m1 ++ m2, by rw [e2, Array.append_assoc]⟩
  · obtain ⟨m, hn, hl⟩ := I.loc
    refine ⟨m, ns m hn, fun i x v e1 e2 e3 => ?_⟩
    obtain ⟨u, r, l⟩ := hl i x v e1 e2 e3
    refine ⟨u, r, ?_⟩
    rcases l with l | ⟨k, c, e, z⟩
    · exact .inl l
    · exact .inr ⟨k, c, e, cellK x c e _ z⟩
  · obtain ⟨v, z⟩ := I.cell x c e
    exact ⟨v, cellK x c e v z⟩
  · obtain ⟨m, ⟨o, _, _, ho, _⟩, _⟩ := I.loc
    exact free _ o (fun z => (hch _ z).2.1 rfl) ho I.free
  · obtain ⟨v, o, ho, hd⟩ := I.cell x c e
    exact free c o (fun z => (hch c z).2.2.1 x c e rfl) ho (I.freeC x c e)
  · obtain ⟨e, n, ne, nf, d⟩ := I.pin p hp
    have nch : p.1 ∉ ch := fun z => (hch p.1 z).2.2.2 p hp rfl
    exact ⟨keep p.1 p.2 ne nf nch e n, free p.1 p.2 nch e n, ne, nf, d⟩
theorem Inv.un {t' : Nat} (I : Inv X pins σ H s) (u : Un X.fs [] H H' s.heap h') (hok : HOk X.prog X.w H' h') : Inv X pins σ H' { s with heap := h', toks := t' } := by
  obtain ⟨m, ⟨o, es, ep, ho, r⟩, _⟩ := id I.loc
  obtain ⟨sl, hL⟩ := u.any ho I.free (by simp)
  exact I.step (g' := s.gens) (d' := s.drawn) (ch := []) (fun _ z => nomatch z) (fun b o _ hb _ e n => u.keep b o e n hb (by simp)) (fun b o _ hb _ e n => u.slot b o e n hb (by simp)) (fun b o _ e n => u.free b o e n (by simp)) (fun b o _ e => u.there b o e (by simp)) u.tups u.frzs u.tbls (fun m' hm => by
    obtain ⟨o', es', ep', ho', r'⟩ := hm
    rw [ho] at ho'; cases ho'
    exact ⟨_, es', ep', hL, r'⟩) hok I.bare
theorem Inv.call {g' : Array GenState} {t' : Nat} {d' : Drawn} {ch : List Addr} (I : Inv X pins σ H s) (u : Un (frs X.stack) ch H H' s.heap h') (hok : HOk X.prog X.w H' h') (hg : AllBare g')
    (hch : ∀ b ∈ ch, (b ∈ X.ex ∨ X.s₀.heap.objs.size ≤ b) ∧ b ≠ X.env.locals ∧ (∀ x c, X.env.cells.lookup x = some c → c ≠ b) ∧ ∀ p ∈ X.pn ++ pins, p.1 ≠ b) :
    Inv X pins σ H' { s with heap := h', gens := g', drawn := d', toks := t' } := by
  obtain ⟨m, ⟨o, es, ep, ho, r⟩, _⟩ := id I.loc
  obtain ⟨sl, hL⟩ := u.any ho I.free fun z => (hch _ z).2.1 rfl
  exact I.step (ch := ch) hch (fun b o hL hb hc e n => u.keep b o e n (fun z => (List.mem_cons.mp (I.stkSub b z)).elim hL hb) hc) (fun b o _ _ hc e n => u.any e n hc) (fun b o hc e n => u.free b o e n hc) (fun b o hc e => u.there b o e hc) u.tups u.frzs u.tbls (fun m' hm => by
    obtain ⟨o', es', ep', ho', r'⟩ := hm
    rw [ho] at ho'; cases ho'
    exact ⟨_, es', ep', hL, r'⟩) hok hg
theorem Inv.turned {t' : Nat} {it : Addr} (I : Inv X pins σ H s) (k : ∀ b o, b ≠ it → s.heap.get? b = some o → h'.get? b = some o) (hn : H it = none) (hL : it ≠ X.env.locals)
    (h1 : it ∈ X.ex ∨ X.s₀.heap.objs.size ≤ it) (h2 : ∀ x c, X.env.cells.lookup x = some c → c ≠ it) (h3 : ∀ p ∈ X.pn ++ pins, p.1 ≠ it) : Inv X pins σ H { s with heap := h', toks := t' } := by
  have nit : ∀ b u, H b = some u → b ≠ it := fun b u e z => by rw [z, hn] at e; cases e
  refine I.step (g' := s.gens) (d' := s.drawn) (ch := [it]) (fun b hb => ?_) (fun b o _ _ hc e _ => k b o (fun z => hc (by simp [z])) e) (fun b o _ _ hc e _ => ⟨o.slots, k b o (fun z => hc (by simp [z])) e⟩) (fun _ _ _ _ n => n)
    (fun b o hc e => ⟨o, k b o (fun z => hc (by simp [z])) e⟩) (fun _ _ e => e) (fun _ _ _ e => e) (fun b ps e => ⟨#[], by rw [e]; simp⟩) (fun m hm => ?_) (fun b u e => ?_) I.bare
  · have e : b = it := by simpa using hb
    subst e
    exact ⟨h1, hL, h2, h3⟩
  · obtain ⟨o, es, ep, ho, r⟩ := hm
    exact ⟨o, es, ep, k _ o (Ne.symm hL) ho, r⟩
  · refine (I.hok b u e).stay (fun c v hc q => k c v ?_ q) (fun _ q => q) fun _ _ q => q
    rcases hc with z | z
    · rw [z]; exact nit b u e
    · exact nit c _ z
theorem Inv.tok (I : Inv X pins σ H s) (t : Nat) : Inv X pins σ H { s with toks := t } := I.un (h' := s.heap) (t' := t) Un.refl I.hok
theorem Inv.kept {t' : Nat} (I : Inv X pins σ H s) (k : ∀ b u, s.heap.get? b = some u → h'.get? b = some u) : Inv X pins σ H { s with heap := h', toks := t' } := I.un (Un.kept k) (I.hok.kept k)
theorem Inv.laid {a : Addr} {o : HO} {t' : Nat} (I : Inv X pins σ H s) (k : ∀ b u, s.heap.get? b = some u → h'.get? b = some u) (hp : s.heap.objs.size ≤ a) (new : ObjOk X.prog X.w (upd H a o) h' a o) :
    Inv X pins σ (upd H a o) { s with heap := h', toks := t' } := I.un (Un.laid k hp (I.hok.fresh hp)) (I.hok.laid k hp new)
theorem Inv.write {x e : Addr} {o : HO} {t' : Nat} (I : Inv X pins σ H s) (mu : Mut (H x)) (he : e = x ∨ H e = some (.own x)) (k : ∀ b u, b ≠ e → s.heap.get? b = some u → h'.get? b = some u) (heo : ∃ u, h'.get? e = some u)
    (new : ObjOk X.prog X.w (upd H x o) h' x o) : Inv X pins σ (upd H x o) { s with heap := h', toks := t' } := I.un (Un.write mu he k heo) (I.hok.write mu he k heo new)
theorem Inv.weak {σ' : List (Option V)} (I : Inv X pins σ H s) (hl : σ'.length = σ.length) (w : ∀ (i : Nat) v, σ'[i]? = some (some v) → σ[i]? = some (some v)) : Inv X pins σ' H s :=
  ⟨I.ok, I.os, I.bare, I.base, let ⟨m, hn, hl'⟩ := I.loc; ⟨m, hn, fun i x v e1 e2 e3 => hl' i x v e1 (w i v e2) e3⟩, I.cell, I.free, I.freeC, I.pin, I.hok, hl.trans I.len⟩
theorem Inv.pins_of {pins' : List (Addr × Obj)} (I : Inv X pins σ H s) (h : ∀ p ∈ pins', s.heap.get? p.1 = some p.2 ∧ H p.1 = none ∧ p.1 ≠ X.env.locals ∧ p.1 ∉ X.fs ∧ ∀ v, p.2.data ≠ .cell v) : Inv X pins' σ H s :=
  ⟨I.ok, I.os, I.bare, I.base, I.loc, I.cell, I.free, I.freeC, fun p hp => (List.mem_append.mp hp).elim (fun z => I.pin p (List.mem_append_left _ z)) (h p), I.hok, I.len⟩

theorem nodup_ix {N : List Str} (hN : N.Nodup) {i j : Nat} {x : Str} (a : N[i]? = some x) (b : N[j]? = some x) : i = j := by
  obtain ⟨h1, e1⟩ := List.getElem?_eq_some_iff.mp a
  obtain ⟨h2, e2⟩ := List.getElem?_eq_some_iff.mp b
  exact (List.getElem_inj hN).mp (e1.trans e2.symm)

theorem store_ok2 {M : Model} {A : Around} {E : Value → Shared → Prop} {i : Nat} {x : Str} {v : V} {u : Value} {Q : Unit → Shared → Prop} (I : Inv X pins σ H s) (hN : X.N.Nodup) (hi : X.N[i]? = some x) (hx : Loc X.env.scope x) (r : RelV v u)
    (h : ∀ s', Inv X pins (σ.set i (some v)) H s' → (∃ a, Heap.SameBut a s.heap s'.heap ∧ (a = X.env.locals ∨ X.env.cells.lookup x = some a)) → Q () s') (hf : X.fn x = true ∨ X.env.scope.names.lookup x = some .local := by first | exact .inl rfl | exact .inr rfl | assumption) : wpAny M A (storeName X.env x u) Q E s := by
  obtain ⟨m, hn, hl⟩ := id I.loc
  have hcls : (X.env.scope.kind == .class || (X.env.scope.kind == .module && X.env.locals != X.env.globals)) = false := by rw [I.ok.kind]; rfl
  have hiσ : i < σ.length := by rw [I.len]; exact (List.getElem?_eq_some_iff.mp hi).1
  have cne := I.cne
  have tracked : ∀ {a : Addr} {h' : Heap}, (∃ o, s.heap.get? a = some o ∧ H a = none) → Heap.SameBut a s.heap h' → HOk X.prog X.w H h' := fun {a h'} ha hs b ob e => by
    obtain ⟨_, _, hfree⟩ := ha
    refine (I.hok b ob e).stay (fun c w' hc q => (hs.2 c ?_).trans q) (fun _ q => q) fun _ _ q => q
    rintro rfl
    rcases hc with rfl | hc
    · rw [hfree] at e; cases e
    · rw [hfree] at hc; cases hc
  rcases hx with hk | hk
  · refine wpAny_storeName_local hk hn (fun h' hn' hs => ?_) hcls
    obtain ⟨oL, _, _, hoL, _⟩ := id hn
    refine h _ ⟨I.ok, I.os, I.bare, ⟨fun b o e n hb hx => ?_, fun b o e n hb hx => ?_, I.base.free, fun b o e hx => ?_, I.base.tups, I.base.frzs, I.base.tbls⟩, ⟨_, hn', fun j y v' e1 e2 e3 => ?_⟩, fun y c e => ?_, I.free, I.freeC, fun p hp => ?_, tracked ⟨oL, hoL, I.free⟩ hs, by simpa using I.len⟩ ⟨_, hs, .inl rfl⟩
    · exact (hs.2 b (Nat.ne_of_lt (Nat.lt_of_lt_of_le (Heap.lt_size e) I.ok.above))).trans (I.base.keep b o e n hb hx)
    · obtain ⟨sl, e1⟩ := I.base.slot b o e n hb hx
      exact ⟨sl, (hs.2 b (Nat.ne_of_lt (Nat.lt_of_lt_of_le (Heap.lt_size e) I.ok.above))).trans e1⟩
    · obtain ⟨o', e1⟩ := I.base.there b o e hx
      exact ⟨o', (hs.2 b (Nat.ne_of_lt (Nat.lt_of_lt_of_le (Heap.lt_size e) I.ok.above))).trans e1⟩
    · by_cases hj : j = i
      · subst hj
        rw [hi] at e1; cases e1
        rw [List.getElem?_set_self hiσ] at e2
        cases e2
        exact ⟨u, r, .inl ⟨hk, by simp⟩⟩
      · rw [List.getElem?_set_ne (Ne.symm hj)] at e2
        obtain ⟨u', r', q⟩ := hl j y v' e1 e2 e3
        refine ⟨u', r', ?_⟩
        rcases q with ⟨k, e⟩ | ⟨k, c, e, z⟩
        · refine .inl ⟨k, ?_⟩
          have : y ≠ x := fun e => hj (nodup_ix hN e1 (e ▸ hi))
          simp [this, e]
        · exact .inr ⟨k, c, e, z.sameBut hs (cne y c e)⟩
    · obtain ⟨w', z⟩ := I.cell y c e
      exact ⟨w', z.sameBut hs (cne y c e)⟩
    · obtain ⟨e, n, ne, nf, d⟩ := I.pin p hp
      exact ⟨(hs.2 p.1 ne).trans e, n, ne, nf, d⟩
  · have hfn : X.fn x = true := by
      rcases hf with z | z
      · exact z
      · rw [z] at hk; cases hk
    obtain ⟨c, hc⟩ := I.ok.has x (.inl hk)
    obtain ⟨w', z⟩ := I.cell x c hc
    refine wpAny_storeName_cell I.ok.kind hk hc z (fun h' hc' hs => ?_)
    obtain ⟨oc, hoc, hocd⟩ := id z
    refine h { s with heap := h' } ⟨I.ok, I.os, I.bare, ⟨fun b o e n hb hx => ?_, fun b o e n hb hx => ?_, I.base.free, fun b o e hx => ?_, I.base.tups, I.base.frzs, I.base.tbls⟩, ⟨m, hn.sameBut hs (Ne.symm (cne x c hc)), fun j y v' e1 e2 e3 => ?_⟩, fun y c' e => ?_, I.free, I.freeC, fun p hp => ?_, tracked ⟨oc, hoc, I.freeC x c hc⟩ hs, by simpa using I.len⟩ ⟨c, hs, .inr hc⟩
    · exact (hs.2 b (Nat.ne_of_lt (Nat.lt_of_lt_of_le (Heap.lt_size e) (I.ok.cab x c hfn hc)))).trans (I.base.keep b o e n hb hx)
    · obtain ⟨sl, e1⟩ := I.base.slot b o e n hb hx
      exact ⟨sl, (hs.2 b (Nat.ne_of_lt (Nat.lt_of_lt_of_le (Heap.lt_size e) (I.ok.cab x c hfn hc)))).trans e1⟩
    · obtain ⟨o', e1⟩ := I.base.there b o e hx
      exact ⟨o', (hs.2 b (Nat.ne_of_lt (Nat.lt_of_lt_of_le (Heap.lt_size e) (I.ok.cab x c hfn hc)))).trans e1⟩
    · by_cases hj : j = i
      · subst hj
        rw [hi] at e1; cases e1
        rw [List.getElem?_set_self hiσ] at e2
        cases e2
        exact ⟨u, r, .inr ⟨.inl hk, c, hc, hc'⟩⟩
      · rw [List.getElem?_set_ne (Ne.symm hj)] at e2
        obtain ⟨u', r', q⟩ := hl j y v' e1 e2 e3
        refine ⟨u', r', ?_⟩
        rcases q with q | ⟨k, c', e, z'⟩
        · exact .inl q
        · refine .inr ⟨k, c', e, z'.sameBut hs ?_⟩
          rintro rfl
          exact hj (nodup_ix hN e1 (I.ok.inj _ _ _ e hc ▸ hi))
    · by_cases hcc : c' = c
      · subst hcc; exact ⟨_, hc'⟩
      · obtain ⟨w2, z2⟩ := I.cell y c' e
        exact ⟨w2, z2.sameBut hs hcc⟩
    · obtain ⟨e, n, ne, nf, d⟩ := I.pin p hp
      refine ⟨(hs.2 p.1 ?_).trans e, n, ne, nf, d⟩
      intro q
      rw [q, hoc] at e
      have q' : oc = p.2 := Option.some.inj e
      exact d w' (by rw [← q']; exact hocd)
theorem store_ok {M : Model} {A : Around} {E : Value → Shared → Prop} {i : Nat} {x : Str} {v : V} {u : Value} {Q : Unit → Shared → Prop} (I : Inv X pins σ H s) (hN : X.N.Nodup) (hi : X.N[i]? = some x) (hx : Loc X.env.scope x) (r : RelV v u)
    (h : ∀ s', Inv X pins (σ.set i (some v)) H s' → Q () s') (hf : X.fn x = true ∨ X.env.scope.names.lookup x = some .local := by first | exact .inl rfl | exact .inr rfl | assumption) : wpAny M A (storeName X.env x u) Q E s :=
  store_ok2 I hN hi hx r (fun s' I' _ => h s' I') hf
theorem Inv.call' {s' : Shared} {ch : List Addr} (I : Inv X pins σ H s) (ho : s'.os = s.os) (u : Un (frs X.stack) ch H H' s.heap s'.heap) (hok : HOk X.prog X.w H' s'.heap) (hg : AllBare s'.gens)
    (hch : ∀ b ∈ ch, (b ∈ X.ex ∨ X.s₀.heap.objs.size ≤ b) ∧ b ≠ X.env.locals ∧ (∀ x c, X.env.cells.lookup x = some c → c ≠ b) ∧ ∀ p ∈ X.pn ++ pins, p.1 ≠ b) : Inv X pins σ H' s' := by
  obtain ⟨h', g', d', t', o'⟩ := s'
  have e : o' = s.os := ho
  subst e
  exact I.call (g' := g') (t' := t') (d' := d') u hok hg hch
end
abbrev XK := Value → Option Addr → Hp → Prop
abbrev St := List (Option V)
abbrev VK := V → Hp → Prop
abbrev TE := St → Hp → VK → Prop
abbrev TT := St → Hp → (Bool → Hp → Prop) → Prop
abbrev TA := St → Hp → (List V → Hp → Prop) → Prop
structure Ends where
  nx : St → Hp → Prop
  rt : VK
  bk : St → Hp → Prop := fun _ _ => False
  ct : St → Hp → Prop := fun _ _ => False
abbrev TS := Ends → St → Hp → Prop

def EP (X : Cx) (pins : List (Addr × Obj)) (σ : St) (Q : VK) (u : Value) (s' : Shared) : Prop := ∃ v H', Inv X pins σ H' s' ∧ RelV v u ∧ Q v H'
def TP (X : Cx) (pins : List (Addr × Obj)) (σ : St) (Q : Bool → Hp → Prop) (b : Bool) (s' : Shared) : Prop := ∃ H', Inv X pins σ H' s' ∧ Q b H'
def AP (X : Cx) (pins : List (Addr × Obj)) (σ : St) (Q : List V → Hp → Prop) (us : List Value) (s' : Shared) : Prop := ∃ vs H', Inv X pins σ H' s' ∧ Vals vs us ∧ Q vs H'
def SP (X : Cx) (pins : List (Addr × Obj)) (D : Ends) (f : Flow) (s' : Shared) : Prop :=
  match f with
  | .next => ∃ σ' H', Inv X pins σ' H' s' ∧ D.nx σ' H'
  | .brk => ∃ σ' H', Inv X pins σ' H' s' ∧ D.bk σ' H'
  | .cont => ∃ σ' H', Inv X pins σ' H' s' ∧ D.ct σ' H'
  | .ret u => ∃ v σ' H', Inv X pins σ' H' s' ∧ RelV v u ∧ D.rt v H'

def PE (X : Cx) (e : Expr) (t : TE) : Prop :=
  ∀ (pins : List (Addr × Obj)) (s : Shared) (σ : St) (H : Hp) (Q : VK), Inv X pins σ H s → t σ H Q → wpAny (model X.prog X.w) X.A (eval e X.env) (EP X pins σ Q) X.xe s
def PT (X : Cx) (e : Expr) (t : TT) : Prop :=
  ∀ (pins : List (Addr × Obj)) (s : Shared) (σ : St) (H : Hp) (Q : Bool → Hp → Prop), Inv X pins σ H s → t σ H Q → wpAny (model X.prog X.w) X.A (isTrue e X.env (eval e X.env)) (TP X pins σ Q) X.xe s
def PW (X : Cx) (e : Expr) (t : TT) : Prop :=
  ∀ (whole : Sem Value) (pins : List (Addr × Obj)) (s : Shared) (σ : St) (H : Hp) (Q : Bool → Hp → Prop), Inv X pins σ H s → t σ H Q → wpAny (model X.prog X.w) X.A (isTrue e X.env whole) (TP X pins σ Q) X.xe s
theorem PW.pt {X : Cx} {e : Expr} {t : TT} (h : PW X e t) : PT X e t := h _
def PA (X : Cx) (es : List Expr) (t : TA) : Prop :=
  ∀ (pos : Pos) (pins : List (Addr × Obj)) (s : Shared) (σ : St) (H : Hp) (Q : List V → Hp → Prop), Inv X pins σ H s → t σ H Q → wpAny (model X.prog X.w) X.A (spliced (backTo pos (starEach es X.env))) (AP X pins σ Q) X.xe s
def PS (X : Cx) (st : Stmt) (t : TS) : Prop :=
  ∀ (pins : List (Addr × Obj)) (s : Shared) (σ : St) (H : Hp) (D : Ends), Inv X pins σ H s → t D σ H → wpAny (model X.prog X.w) X.A (exec st X.env) (SP X pins D) X.xe s
def PSs (X : Cx) (st : List Stmt) (t : TS) : Prop :=
  ∀ (pins : List (Addr × Obj)) (s : Shared) (σ : St) (H : Hp) (D : Ends), Inv X pins σ H s → t D σ H → wpAny (model X.prog X.w) X.A (execs st X.env) (SP X pins D) X.xe s
theorem thn {α : Type} {t : Sem α} {Q Q' : α → Shared → Prop} {M : Model} {A : Around} {E : Value → Shared → Prop} {s : Shared} (h : wpAny M A t Q E s) (hQ : ∀ a s, Q a s → Q' a s) : wpAny M A t Q' E s := wpAny_mono h hQ fun _ _ x => x
end L2
namespace L2
open PySem PySem.Spec PyProof.Rows
section
variable {X : Cx}
def tVar (i : Nat) : TE := fun σ H Q => ∃ v, σ[i]? = some (some v) ∧ Q v H
def tC (v : V) : TE := fun _ H Q => Q v H
theorem pe_var {i : Nat} {x : Str} {pos : Pos} (hN : X.N[i]? = some x) (hv : Vis X.env.scope x) (hd : (x == ("__debug__" : Str)) = false := by decide) (hcd : (x == ("__classdict__" : Str)) = false := by decide) : PE X (.Name x pos) (tVar i) := by
  intro pins s σ H Q I h
  obtain ⟨v, e, h⟩ := h
  obtain ⟨m, hn, hl⟩ := I.loc
  obtain ⟨u, r, l⟩ := hl i x v hN e hv
  have fin : EP X pins σ Q u s := ⟨v, H, I, r, h⟩
  rcases l with ⟨hk, hm⟩ | ⟨hk, c, hc, hcell⟩
  · exact wpAny_Name (wpAny_loadName_local I.ok.kind hk hn hm fin) hd
  · rcases hk with hk | hk
    · exact wpAny_Name (wpAny_loadName_cell I.ok.kind hk hc hcell fin) hd
    · exact wpAny_Name (wpAny_loadName_free I.ok.kind hk hc hcell fin hcd) hd
theorem pe_int {i j pos} : PE X (.Constant (.int i) j pos) (tC (.int i)) := fun _ _ _ H _ I h => wpAny_Constant_int ⟨.int i, H, I.tok _, ⟨_, rfl⟩, h⟩
theorem pe_bl {b j pos} : PE X (.Constant (.bool b) j pos) (tC (.bl b)) := fun _ _ _ H _ I h => Constant_bool ⟨.bl b, H, I, rfl, h⟩
theorem pe_non {j pos} : PE X (.Constant .none j pos) (tC .non) := fun _ _ _ H _ I h => Constant_none ⟨.non, H, I, rfl, h⟩
def Gl (X : Cx) (x : Str) : Prop := X.env.kindOf x = some .globalImplicit
theorem ld_glob {E : Value → Shared → Prop} {pins : List (Addr × Obj)} {s : Shared} {σ : St} {H : Hp} {x : Str} {u : Value} {pos : Pos} {Q : Value → Shared → Prop} (I : Inv X pins σ H s) (hg : Gl X x) (hm : X.mg x = some u) (h : Q u s)
    (hd : (x == ("__debug__" : Str)) = false := by decide) : wpAny (model X.prog X.w) X.A (eval (.Name x pos) X.env) Q E s :=
  Calls.Name_function_global I.ok.kind hg (Calls.loadGlobal_global (by rw [I.ok.glob]; exact I.mod.glob.keeps I.bk) hm h) hd
theorem ld_blt {E : Value → Shared → Prop} {pins : List (Addr × Obj)} {s : Shared} {σ : St} {H : Hp} {x : Str} {u : Value} {pos : Pos} {Q : Value → Shared → Prop} (I : Inv X pins σ H s) (hg : Gl X x) (hm : X.mg x = none) (hv : bootBuiltins x = some u) (h : Q u s)
    (hn : x ≠ "__name__" := by decide) (hd : (x == ("__debug__" : Str)) = false := by decide) : wpAny (model X.prog X.w) X.A (eval (.Name x pos) X.env) Q E s := by
  obtain ⟨mb, h1, h2⟩ := I.mod.blt
  exact Calls.Name_function_global I.ok.kind hg (Calls.loadGlobal_builtin (by rw [I.ok.glob]; exact I.mod.glob.keeps I.bk) hm (by rw [I.ok.blt]; exact h1.keeps I.bk) ((h2 x hn).trans hv) h) hd
theorem pe_glob {x : Str} {v : V} {u : Value} {pos : Pos} (hg : Gl X x) (hm : X.mg x = some u) (r : RelV v u) (hd : (x == ("__debug__" : Str)) = false := by decide) : PE X (.Name x pos) (tC v) :=
  fun _ _ _ H _ I h => ld_glob I hg hm ⟨v, H, I, r, h⟩ hd
theorem pe_bltn {x : Str} {v : V} {u : Value} {pos : Pos} (hg : Gl X x) (hm : X.mg x = none) (hv : bootBuiltins x = some u) (r : RelV v u) (hn : x ≠ "__name__" := by decide) (hd : (x == ("__debug__" : Str)) = false := by decide) : PE X (.Name x pos) (tC v) :=
  fun _ _ _ H _ I h => ld_blt I hg hm hv ⟨v, H, I, r, h⟩ hn hd

variable {a b : Expr} {ta tb : TE} {pos : Pos}
def tB (t : TE) : TT := fun σ H Q => t σ H fun x H1 => ∃ c, x = .bl c ∧ Q c H1
theorem pt_val {e : Expr} {t : TE} (h : PE X e t) (he : ∀ whole, isTrue e X.env whole = (do let v ← whole; standAt e.pos; holding [v] (truthy v)) := by intro _; rfl) : PT X e (tB t) := by
  intro pins s σ H Q I hw
  refine isTrue_plain (thn (h pins s σ H _ I hw) fun v s1 ⟨x, H1, I1, r1, q1⟩ => ?_) (he _)
  obtain ⟨d, rfl, q⟩ := q1
  cases r1
  exact wpAny_truthy_bool ⟨H1, I1, q⟩

variable {tA tB' : TT} {rest : List Expr}
def tAnd (t u : TT) : TT := fun σ H Q => t σ H fun c H1 => if c = true then u σ H1 Q else Q false H1
def tOr (t u : TT) : TT := fun σ H Q => t σ H fun c H1 => if c = true then Q true H1 else u σ H1 Q
def tNot (t : TT) : TT := fun σ H Q => t σ H fun c H1 => Q (!c) H1
theorem pw_and1 (ha : PT X a tA) : PW X (.BoolOp .And [a] pos) tA := by
  intro wh pins s σ H Q I h
  refine isTrue_and (thn (ha pins s σ H Q I h) fun c s1 e => ?_)
  cases c with
  | true => exact isTrue_and_nil e
  | false => exact e
theorem pw_or1 (ha : PT X a tA) : PW X (.BoolOp .Or [a] pos) tA := by
  intro wh pins s σ H Q I h
  refine isTrue_or (thn (ha pins s σ H Q I h) fun c s1 e => ?_)
  cases c with
  | false => exact isTrue_or_nil e
  | true => exact e
theorem pw_and (ha : PT X a tA) (hb : PW X (.BoolOp .And (b :: rest) pos) tB') : PW X (.BoolOp .And (a :: b :: rest) pos) (tAnd tA tB') := by
  intro wh pins s σ H Q I h
  refine isTrue_and (thn (ha pins s σ H _ I h) fun c s1 ⟨H1, I1, q1⟩ => ?_)
  cases c with
  | true => exact hb wh pins s1 σ H1 Q I1 q1
  | false => exact ⟨H1, I1, q1⟩
theorem pw_or (ha : PT X a tA) (hb : PW X (.BoolOp .Or (b :: rest) pos) tB') : PW X (.BoolOp .Or (a :: b :: rest) pos) (tOr tA tB') := by
  intro wh pins s σ H Q I h
  refine isTrue_or (thn (ha pins s σ H _ I h) fun c s1 ⟨H1, I1, q1⟩ => ?_)
  cases c with
  | true => exact ⟨H1, I1, q1⟩
  | false => exact hb wh pins s1 σ H1 Q I1 q1
theorem pt_not (ha : PT X a tA) : PT X (.UnaryOp .Not a pos) (tNot tA) := by
  intro pins s σ H Q I h
  exact isTrue_not (ha pins s σ H (fun c H1 => Q (!c) H1) I h)
def tAndV (ta tb : TE) : TE := fun σ H Q => ta σ H fun x H1 => ∃ c, x = .bl c ∧ if c = true then tb σ H1 Q else Q (.bl false) H1
def tNotV (ta : TE) : TE := fun σ H Q => ta σ H fun x H1 => ∃ c, x = .bl c ∧ Q (.bl (!c)) H1
theorem pe_one {op} {t : TE} (h : PE X a t) : PE X (.BoolOp op [a] pos) t := fun pins s σ H Q I hw => BoolOp_one (h pins s σ H Q I hw)
theorem pe_and (ha : PE X a ta) (hb : PE X (.BoolOp .And (b :: rest) pos) tb) : PE X (.BoolOp .And (a :: b :: rest) pos) (tAndV ta tb) := by
  intro pins s σ H Q I h
  refine BoolOp_and (thn (ha pins s σ H _ I h) fun v s1 ⟨x, H1, I1, r1, q1⟩ => ?_)
  obtain ⟨c, rfl, q1⟩ := q1
  cases r1
  refine wpAny_truthy_bool ?_
  cases c with
  | true => exact hb pins s1 σ H1 Q I1 q1
  | false => exact ⟨.bl false, H1, I1, rfl, q1⟩
theorem pe_not (ha : PE X a ta) : PE X (.UnaryOp .Not a pos) (tNotV ta) := by
  intro pins s σ H Q I h
  refine UnaryOp_ (thn (ha pins s σ H _ I h) fun v s1 ⟨x, H1, I1, r1, q1⟩ => ?_)
  obtain ⟨c, rfl, q1⟩ := q1
  cases r1
  exact not_of (wpAny_truthy_bool ⟨.bl (!c), H1, I1, rfl, q1⟩)
def tIf (t : TT) (ta tb : TE) : TE := fun σ H Q => t σ H fun c H1 => if c = true then ta σ H1 Q else tb σ H1 Q
theorem pe_ifExp {c : Expr} (hc : PT X c tA) (ha : PE X a ta) (hb : PE X b tb) : PE X (.IfExp c a b pos) (tIf tA ta tb) := by
  intro pins s σ H Q I h
  refine wpAny_IfExp (thn (hc pins s σ H _ I h) fun d s1 ⟨H1, I1, q1⟩ => ?_)
  cases d with
  | true => exact ha pins s1 σ H1 Q I1 q1
  | false => exact hb pins s1 σ H1 Q I1 q1
end
end L2
namespace L2
open PySem PySem.Spec PyProof.Rows
def SqL (K : PySem.W.Frag) (H : Hp) (a : Addr) (xs : List V) : Prop :=
  Rd H a (.lst xs) ∨
    ∃ (o : Obj) (its : Array Value) (n : Nat), K.lookup a = some o ∧ o.cls = .type "list" ∧ o.dict = none ∧ o.data = .seq its n ∧ its.size ≤ sizeLine ∧ Vals xs its.toList
def SqT (K : PySem.W.Frag) (H : Hp) (a : Addr) (xs : List V) : Prop :=
  Rd H a (.tup xs) ∨
    ∃ (o : Obj) (its : Array Value) (n : Nat), K.lookup a = some o ∧ o.cls = .type "tuple" ∧ o.data = .seq its n ∧ its.size ≤ sizeLine ∧ Vals xs its.toList
def absV : Value → Option V
  | .none => some .non
  | .bool b => some (.bl b)
  | .int i _ => some (.int i)
  | .str x _ => some (.str x)
  | .bytes b _ => some (.byt b)
  | .float b _ => some (.flt b)
  | .ref a => some (.ref a)
  | .type n => some (.ty n)
  | _ => none
theorem RelV.abs {x : V} {u : Value} (r : RelV x u) : absV u = some x := by
  cases x with
  | non => cases r; rfl
  | bl _ => cases r; rfl
  | int _ => obtain ⟨t, rfl⟩ := r; rfl
  | str _ => obtain ⟨t, rfl⟩ := r; rfl
  | byt _ => obtain ⟨t, rfl⟩ := r; rfl
  | flt _ => obtain ⟨t, rfl⟩ := r; rfl
  | ref _ => cases r; rfl
  | ty _ => cases r; rfl
theorem RelV.inj {x y : V} {u : Value} (r : RelV x u) (q : RelV y u) : x = y := Option.some.inj (r.abs.symm.trans q.abs)
theorem Vals.inj : ∀ {xs ys : List V} {us : List Value}, Vals xs us → Vals ys us → xs = ys
  | _, _, _, .nil, .nil => rfl
  | _, _, _, .cons r t, .cons r' t' => by rw [r.inj r', Vals.inj t t']
section
variable {X : Cx} {pins : List (Addr × Obj)} {σ : St} {H : Hp} {s : Shared} {a : Addr} {xs ys : List V}
theorem SqL.of {K : PySem.W.Frag} (h : H a = some (.lst xs)) : SqL K H a xs := .inl (.inl h)
theorem SqT.of {K : PySem.W.Frag} (h : H a = some (.tup xs)) : SqT K H a xs := .inl (.inl h)
theorem Inv.list (I : Inv X pins σ H s) (h : SqL X.K H a xs) : ∃ its : List Value, Vals xs its ∧ PlainL s.heap a its.toArray ∧ xs.length ≤ sizeLine := by
  rcases h with h | ⟨o, its, n, hk, hc, hd, hs, hz, r⟩
  · obtain ⟨z, its, n, r, e⟩ := h.ok I.hok
    exact ⟨its, r, ⟨_, n, e, rfl, rfl, rfl⟩, z⟩
  · refine ⟨its.toList, r, ⟨o, n, I.kIn a o hk, hc, hd, by simpa using hs⟩, ?_⟩
    have e := r.length
    simp only [Array.length_toList] at e
    omega
theorem Inv.tuple (I : Inv X pins σ H s) (h : SqT X.K H a xs) : ∃ its : List Value, Vals xs its ∧ IsTup s.heap a its.toArray ∧ xs.length ≤ sizeLine := by
  rcases h with h | ⟨o, its, n, hk, hc, hs, hz, r⟩
  · obtain ⟨z, its, r, p⟩ := h.ok I.hok
    exact ⟨its, r, p, z⟩
  · refine ⟨its.toList, r, ⟨o, I.kIn a o hk, hc, n, by simpa using hs⟩, ?_⟩
    have e := r.length
    simp only [Array.length_toList] at e
    omega
theorem Inv.list_inj (I : Inv X pins σ H s) (h : SqL X.K H a xs) (h' : SqL X.K H a ys) : xs = ys := by
  obtain ⟨its, r, ⟨o, n, e, _, _, d⟩, _⟩ := I.list h
  obtain ⟨its', r', ⟨o', n', e', _, _, d'⟩, _⟩ := I.list h'
  rw [e] at e'; cases e'
  rw [d] at d'
  injection d' with d1 _
  have : its = its' := by simpa using congrArg Array.toList d1
  subst this
  exact r.inj r'
end
abbrev Cx.wish (X : Cx) (E : Value → Shared → Prop) : Cx := { X with xe := E }
abbrev Cx.nox (X : Cx) : Cx := X.wish fun _ _ => False
theorem Cx.Ok.wish {X : Cx} (ok : X.Ok) (E : Value → Shared → Prop) : (X.wish E).Ok :=
  ⟨ok.mod, ok.kind, ok.glob, ok.blt, ok.above, ok.inj, ok.has, ok.cab, ok.hd, ok.frames, ok.stk, ok.exf, ok.bs, ok.bsz, ok.noex, ok.exfs, ok.funs, ok.frf⟩
theorem Cx.Ok.unwish {X : Cx} {E : Value → Shared → Prop} (ok : (X.wish E).Ok) : X.Ok :=
  ⟨ok.mod, ok.kind, ok.glob, ok.blt, ok.above, ok.inj, ok.has, ok.cab, ok.hd, ok.frames, ok.stk, ok.exf, ok.bs, ok.bsz, ok.noex, ok.exfs, ok.funs, ok.frf⟩
section
variable {X : Cx} {pins : List (Addr × Obj)} {σ : St} {H : Hp} {s : Shared} {E : Value → Shared → Prop}
theorem Inv.wish (I : Inv X pins σ H s) (E : Value → Shared → Prop) : Inv (X.wish E) pins σ H s := ⟨I.ok.wish E, I.os, I.bare, I.base, I.loc, I.cell, I.free, I.freeC, I.pin, I.hok, I.len⟩
theorem Inv.unwish (I : Inv (X.wish E) pins σ H s) : Inv X pins σ H s := ⟨I.ok.unwish, I.os, I.bare, I.base, I.loc, I.cell, I.free, I.freeC, I.pin, I.hok, I.len⟩
theorem SP.unwish {D : Ends} {f : Flow} {s' : Shared} (h : SP (X.wish E) pins D f s') : SP X pins D f s' := by
  cases f with
  | next => obtain ⟨σ', H', I, q⟩ := h; exact ⟨σ', H', I.unwish, q⟩
  | brk => obtain ⟨σ', H', I, q⟩ := h; exact ⟨σ', H', I.unwish, q⟩
  | cont => obtain ⟨σ', H', I, q⟩ := h; exact ⟨σ', H', I.unwish, q⟩
  | ret u => obtain ⟨v, σ', H', I, r, q⟩ := h; exact ⟨v, σ', H', I.unwish, r, q⟩
theorem PE.nox {e : Expr} {t : TE} (h : PE X.nox e t) : PE X e t := fun pins s σ H Q I hw =>
  wpAny_mono (h pins s σ H Q (I.wish _) hw) (fun _ _ ⟨v, H', I', r, q⟩ => ⟨v, H', I'.unwish, r, q⟩) fun _ _ z => False.elim z
theorem PT.nox {e : Expr} {t : TT} (h : PT X.nox e t) : PT X e t := fun pins s σ H Q I hw =>
  wpAny_mono (h pins s σ H Q (I.wish _) hw) (fun _ _ ⟨H', I', q⟩ => ⟨H', I'.unwish, q⟩) fun _ _ z => False.elim z
theorem PSs.nox {st : List Stmt} {t : TS} (h : PSs X.nox st t) : PSs X st t := fun pins s σ H D I hw =>
  wpAny_mono (h pins s σ H D (I.wish _) hw) (fun _ _ q => q.unwish) fun _ _ z => False.elim z
end
section
variable {X : Cx} {st : Stmt} {rest : List Stmt} {t u : TS} {e : Expr} {te : TE} {pos : Pos}
def tNext : TS := fun D σ H => D.nx σ H
def tSeq (t u : TS) : TS := fun D σ H => t { D with nx := u D } σ H
theorem pss_nil : PSs X [] tNext := fun _ _ σ H _ I h => wpAny_execs_nil ⟨σ, H, I, h⟩
theorem pss_cons (h1 : PS X st t) (h2 : PSs X rest u) : PSs X (st :: rest) (tSeq t u) := by
  intro pins s σ H D I h
  refine wpAny_execs_cons (thn (h1 pins s σ H { D with nx := u D } I h) fun f s1 q => ?_)
  cases f with
  | next =>
    obtain ⟨σ', H', I', q⟩ := q
    exact h2 pins s1 σ' H' D I' q
  | ret v => exact q
  | brk => exact q
  | cont => exact q
theorem pss_one (h1 : PS X st t) : PSs X [st] t := by
  intro pins s σ H D I h
  refine wpAny_execs_cons (thn (h1 pins s σ H D I h) fun f s1 q => ?_)
  cases f with
  | next => exact wpAny_execs_nil q
  | ret v => exact q
  | brk => exact q
  | cont => exact q
theorem Inv.quiet {pins : List (Addr × Obj)} {σ : St} {H : Hp} {s : Shared} (I : Inv X pins σ H s) : interactive X.env = false := by simp [interactive, I.ok.kind]
def tDrop (te : TE) : TS := fun D σ H => te σ H fun _ H1 => D.nx σ H1
theorem ps_expr (he : PE X e te) (hs : swapsWith e none pos.line X.env = pure false := by rfl) : PS X (.Expr e pos) (tDrop te) := by
  intro pins s σ H D I h
  exact wpAny_Expr_any (thn (he pins s σ H _ I h) fun v s1 ⟨x, H1, I1, r1, q1⟩ => ⟨σ, H1, I1, q1⟩) I.quiet hs
def tRet (te : TE) : TS := fun D σ H => te σ H D.rt
theorem ps_ret (he : PE X e te) : PS X (.Return (some e) pos) (tRet te) := by
  intro pins s σ H D I h
  exact wpAny_Return_some (thn (he pins s σ H _ I h) fun v s1 ⟨x, H1, I1, r1, q1⟩ => ⟨x, σ, H1, I1, r1, q1⟩)
def tIfS (c : TT) (t u : TS) : TS := fun D σ H => c σ H fun b H1 => if b = true then t D σ H1 else u D σ H1
theorem ps_if {c : Expr} {a b : List Stmt} {tc : TT} (hc : PT X c tc) (ha : PSs X a t) (hb : PSs X b u) : PS X (.If c a b pos) (tIfS tc t u) := by
  intro pins s σ H D I h
  refine wpAny_If (thn (hc pins s σ H _ I h) fun d s1 ⟨H1, I1, q1⟩ => ?_)
  cases d with
  | true => exact ha pins s1 σ H1 D I1 q1
  | false => exact hb pins s1 σ H1 D I1 q1
def tNever : TS := fun _ _ _ => False
theorem ps_never : PS X st tNever := fun _ _ _ _ _ _ h => h.elim
end
abbrev TG := V → St → Hp → (St → Hp → Prop) → Prop
abbrev TGs := List V → St → Hp → (St → Hp → Prop) → Prop
def PG (X : Cx) (target : Expr) (t : TG) : Prop :=
  ∀ (pins : List (Addr × Obj)) (s : Shared) (σ : St) (H : Hp) (v : V) (u : Value) (Q : St → Hp → Prop), Inv X pins σ H s → RelV v u → t v σ H Q →
    wpAny (model X.prog X.w) X.A (assign target X.env u) (fun _ s' => ∃ σ' H', Inv X pins σ' H' s' ∧ Q σ' H') X.xe s
def PGs (X : Cx) (ts : List Expr) (t : TGs) : Prop :=
  ∀ (pins : List (Addr × Obj)) (s : Shared) (σ : St) (H : Hp) (vs : List V) (us : List Value) (Q : St → Hp → Prop), Inv X pins σ H s → Vals vs us → t vs σ H Q →
    wpAny (model X.prog X.w) X.A (assignInOrder ((assignEach ts X.env).map (·.2)) us) (fun _ s' => ∃ σ' H', Inv X pins σ' H' s' ∧ Q σ' H') X.xe s
abbrev TSet := V → V → V → Hp → (Hp → Prop) → Prop
def PSet (X : Cx) (t : TSet) : Prop :=
  ∀ (pins : List (Addr × Obj)) (s : Shared) (σ : St) (H : Hp) (o i v : V) (ov iv u : Value) (Q : Hp → Prop), Inv X pins σ H s → RelV o ov → RelV i iv → RelV v u → t o i v H Q →
    wpAny (model X.prog X.w) X.A (setItem ov iv u) (fun _ s' => ∃ H', Inv X pins σ H' s' ∧ Q H') X.xe s
section
variable {X : Cx} {pos : Pos}
def gName (i : Nat) : TG := fun v σ H Q => Q (σ.set i (some v)) H
theorem pg_name {i : Nat} {x : Str} (hN : X.N.Nodup) (hi : X.N[i]? = some x) (hx : Loc X.env.scope x) (hf : X.fn x = true ∨ X.env.scope.names.lookup x = some .local := by first | exact .inl rfl | exact .inr rfl | assumption) : PG X (.Name x pos) (gName i) := by
  intro pins s σ H v u Q I r h
  exact wpAny_assign_Name (store_ok I hN hi hx r (fun s' I' => ⟨_, H, I', h⟩) hf)
def gNil : TGs := fun vs σ H Q => vs = [] ∧ Q σ H
def gCons (t : TG) (u : TGs) : TGs := fun vs σ H Q => ∃ v r, vs = v :: r ∧ t v σ H fun σ' H' => u r σ' H' Q
theorem pgs_nil : PGs X [] gNil := by
  intro pins s σ H vs us Q I r h
  obtain ⟨e, h⟩ := h
  subst e
  cases r
  exact assignInOrder_nil ⟨σ, H, I, h⟩
theorem pgs_cons {e : Expr} {es : List Expr} {t : TG} {u : TGs} (h1 : PG X e t) (h2 : PGs X es u)
    (hs : (assignEach (e :: es) X.env).map (·.2) = assign e X.env :: (assignEach es X.env).map (·.2) := by rfl) : PGs X (e :: es) (gCons t u) := by
  intro pins s σ H vs us Q I r h
  obtain ⟨v, vr, e1, h⟩ := h
  subst e1
  cases r with
  | cons r rr =>
    rw [hs]
    refine assignInOrder_cons (thn (h1 pins s σ H _ _ _ I r h) fun _ s1 ⟨σ1, H1, I1, q1⟩ => ?_)
    exact h2 pins s1 σ1 H1 _ _ Q I1 rr q1
def gTup (K : PySem.W.Frag) (n : Nat) (t : TGs) : TG := fun v σ H Q => ∃ a xs, v = .ref a ∧ SqT K H a xs ∧ xs.length = n ∧ t xs σ H Q
theorem pg_tup {es : List Expr} {k : Nat} {t : TGs} {n : Nat} (hc : X.calm = true) (h : PGs X es t)
    (hn : (assignEach es X.env).length = n := by rfl) (hst : (assignEach es X.env).findIdx? (·.1) = none := by rfl) : PG X (.Tuple es k pos) (gTup X.K n t) := by
  intro pins s σ H v u Q I r hw
  obtain ⟨a, xs, e1, hq, hl, hw⟩ := hw
  subst e1
  cases r
  obtain ⟨its, rv, ht, hz⟩ := I.tuple hq
  refine assign_Tuple_tuple (I.ok.hd hc) ht (by simp [hn, ← hl, rv.length]) hst fun h' hx => ?_
  have I1 : Inv X pins σ H { s with heap := h' } := I.kept (t' := s.toks) fun b o e => hx b o (Nat.ne_of_lt (Heap.lt_size e)) e
  exact h pins _ σ H xs _ Q I1 (by simpa using rv) hw
def gSub (to ti : TE) (t : TSet) : TG := fun v σ H Q => to σ H fun o H1 => ti σ H1 fun i H2 => t o i v H2 fun H3 => Q σ H3
theorem pg_sub {o i : Expr} {to ti : TE} {t : TSet} (ho : PE X o to) (hi : PE X i ti) (hs : PSet X t)
    (ha : ∀ v, assign (.Subscript o i pos) X.env v = (do
      let ov ← holding [v] (eval o X.env)
      let iv ← holding [v, ov] (eval i X.env)
      standAt pos
      holding [v, ov, iv] (setItem ov iv v)
      release [v, ov, iv] []) := by intro _; rfl) : PG X (.Subscript o i pos) (gSub to ti t) := by
  intro pins s σ H v u Q I r h
  rw [ha]
  refine wpAny_bind (wpAny_holding (thn (ho pins s σ H _ I h) fun ov s1 ⟨x, H1, I1, r1, q1⟩ => ?_))
  refine wpAny_bind (wpAny_holding (thn (hi pins s1 σ H1 _ I1 q1) fun iv s2 ⟨y, H2, I2, r2, q2⟩ => ?_))
  refine wpAny_bind (wpAny_standAt (wpAny_bind (wpAny_holding (thn (hs pins s2 σ H2 x y v ov iv u _ I2 r1 r2 r q2) fun _ s3 ⟨H3, I3, q3⟩ => ?_))))
  exact wpAny_release ⟨σ, H3, I3, q3⟩
def tAsg (te : TE) (g : TG) : TS := fun D σ H => te σ H fun x H1 => g x σ H1 D.nx
theorem ps_asg {tg e : Expr} {te : TE} {g : TG} (he : PE X e te) (hg : PG X tg g) (hs : swapsWithSole [tg] e pos.line X.env = pure false := by rfl) (hw : swappedStores [tg] e X.env = pure none := by rfl)
    (h1 : (assignEach [tg] X.env).map (·.2) = [assign tg X.env] := by rfl) : PS X (.Assign [tg] e pos) (tAsg te g) := by
  intro pins s σ H D I h
  refine wpAny_Assign_stores (thn (he pins s σ H _ I h) fun v s1 ⟨x, H1, I1, r1, q1⟩ => ?_) hs hw
  rw [h1]
  exact thn (hg pins s1 σ H1 x v _ I1 r1 q1) fun _ s2 q => q
theorem ps_set {i : Nat} {x : Str} {e : Expr} {te : TE} {pos' : Pos} (hN : X.N.Nodup) (hi : X.N[i]? = some x) (hx : Loc X.env.scope x) (he : PE X e te) (hs : swapsWith e (some (.Name x pos')) pos.line X.env = pure false := by rfl) (hf : X.fn x = true ∨ X.env.scope.names.lookup x = some .local := by first | exact .inl rfl | exact .inr rfl | assumption) :
    PS X (.Assign [.Name x pos'] e pos) (tAsg te (gName i)) := by
  intro pins s σ H D I h
  refine wpAny_Assign_Name (thn (he pins s σ H _ I h) fun v s1 ⟨y, H1, I1, r1, q1⟩ => ?_) hs
  exact store_ok I1 hN hi hx r1 (fun s2 I2 => ⟨_, H1, I2, q1⟩) hf
end
section
variable {X : Cx} {pos : Pos}
def tWhile (c : TT) (tb : TS) : TS := fun D σ H => ∃ W : Nat → St → Hp → Prop, (∃ m, W m σ H) ∧ ∀ m σ H, W m σ H →
  c σ H fun b H1 => if b = true then ∃ N : St → Hp → Prop, (∀ σ' H', N σ' H' → ∃ m', m' < m ∧ W m' σ' H') ∧ tb { D with nx := N, ct := N, bk := D.nx } σ H1 else D.nx σ H1
theorem ps_while {c : Expr} {body : List Stmt} {tc : TT} {tb : TS} (hp : PassesOwn (model X.prog X.w) X.A X.env X.xe) (hc : PT X c tc) (hb : PSs X body tb) : PS X (.While c body [] pos) (tWhile tc tb) := by
  intro pins s σ H D I h
  obtain ⟨W, ⟨m0, w0⟩, turn⟩ := h
  refine wpAny_While (codeAny_whileLoop (fun n s' => ∃ σ' H', Inv X pins σ' H' s' ∧ W n σ' H') ?_ m0 ⟨σ, H, I, w0⟩)
  rintro n s1 ⟨σ1, H1, I1, w1⟩
  refine wpAny_passesOwn hp (thn (hc pins s1 σ1 H1 _ I1 (turn n σ1 H1 w1)) fun b s2 ⟨H2, I2, q2⟩ => ?_)
  cases b with
  | true =>
    obtain ⟨N, hN, q2⟩ := q2
    rw [if_pos rfl]
    refine wpAny_passesOwn hp (thn (hb pins s2 σ1 H2 _ I2 q2) fun f s3 q3 => ?_)
    cases f with
    | next =>
      obtain ⟨σ3, H3, I3, n3⟩ := q3
      obtain ⟨m', hm, w3⟩ := hN σ3 H3 n3
      exact ⟨m', hm, σ3, H3, I3, w3⟩
    | cont =>
      obtain ⟨σ3, H3, I3, n3⟩ := q3
      obtain ⟨m', hm, w3⟩ := hN σ3 H3 n3
      exact ⟨m', hm, σ3, H3, I3, w3⟩
    | brk => exact q3
    | ret v => exact q3
  | false =>
    rw [if_neg Bool.false_ne_true]
    exact wpAny_execs_nil ⟨σ1, H2, I2, q2⟩
end
structure It where
  go : Nat → Hp → Prop
  yld : Nat → Hp → V → Hp → Prop
  stop : Nat → Hp → Prop
def FpOk (X : Cx) (pins : List (Addr × Obj)) (H : Hp) (b : Addr) : Prop :=
  H b = none ∧ b ≠ X.env.locals ∧ b ∉ X.fs ∧ (b ∈ X.ex ∨ X.s₀.heap.objs.size ≤ b) ∧ (∀ x c, X.env.cells.lookup x = some c → c ≠ b) ∧ ∀ p ∈ X.pn ++ pins, p.1 ≠ b
theorem Inv.fpOk {X : Cx} {pins : List (Addr × Obj)} {σ : St} {H H' : Hp} {s : Shared} {b : Addr} (I : Inv X pins σ H s) (hb : s.heap.objs.size ≤ b) (hn : H' b = none) : FpOk X pins H' b := by
  refine ⟨hn, Nat.ne_of_gt (Nat.lt_of_lt_of_le I.lt hb), I.nofs hb, .inr (Nat.le_trans I.sz hb), fun x c e z => ?_, fun p hp z => ?_⟩
  · obtain ⟨v, q⟩ := I.cell x c e
    exact absurd (Nat.lt_of_lt_of_le q.lt (by rw [z]; exact hb)) (Nat.lt_irrefl _)
  · exact absurd (Nat.lt_of_lt_of_le (Heap.lt_size (I.pin p hp).1) (by rw [z]; exact hb)) (Nat.lt_irrefl _)
structure Turn (P : Program) (w : World) (K : PySem.W.Frag) (tg : Expr) (J : It) (fp : List Addr) (it : Addr) (tn : Nat → Heap → Prop) : Prop where
  mem : it ∈ fp
  obj : ∀ i h, tn i h → ∀ b ∈ fp, ∃ o, h.get? b = some o ∧ ∀ v, o.data ≠ .cell v
  keep : ∀ i h h', tn i h → (∀ b ∈ fp, ∀ o, h.get? b = some o → h'.get? b = some o) → tn i h'
  item : ∀ (X : Cx), X.prog = P → X.w = w → X.K = K → X.calm = true → ∀ (i : Nat) (pins : List (Addr × Obj)) (s : Shared) (σ : St) (H : Hp) (E : Value → Shared → Prop), Inv X pins σ H s → (∀ b ∈ fp, FpOk X pins H b) → tn i s.heap → J.go i H →
    wpAny (model P w) X.A (pyNext (.ref it)) (fun r s1 => ∃ u, r = some u ∧
      wpAny (model P w) X.A (letOwnedTupleGo tg (.ref it) u) (fun _ s2 => ∃ x H', Inv X pins σ H' s2 ∧ RelV x u ∧ J.yld i H x H' ∧ tn (i + 1) s2.heap ∧ ∀ b ∈ fp, H' b = none) E s1) E s
  done : ∀ (X : Cx), X.prog = P → X.w = w → X.K = K → X.calm = true → ∀ (i : Nat) (pins : List (Addr × Obj)) (s : Shared) (σ : St) (H : Hp) (E : Value → Shared → Prop), Inv X pins σ H s → (∀ b ∈ fp, FpOk X pins H b) → tn i s.heap → J.stop i H →
    wpAny (model P w) X.A (pyNext (.ref it)) (fun r s1 => r = none ∧ Inv X pins σ H s1) E s
  self : ∀ (A : Around) (i : Nat) (s : Shared) (Q : Value → Shared → Prop) (E : Value → Shared → Prop), tn i s.heap → Q (.ref it) s → wpAny (model P w) A (pyIter (.ref it)) Q E s
abbrev TI := St → Hp → (It → Hp → Prop) → Prop
def PIE (X : Cx) (pins : List (Addr × Obj)) (σ : St) (tg : Expr) (R : It → Hp → Prop) (itv : Value) (s2 : Shared) : Prop :=
  ∃ (it : Addr) (fp : List Addr) (tn : Nat → Heap → Prop) (J : It) (H' : Hp), itv = .ref it ∧ Inv X pins σ H' s2 ∧ Turn X.prog X.w X.K tg J fp it tn ∧ tn 0 s2.heap ∧ (∀ b ∈ fp, FpOk X pins H' b) ∧ R J H'
def PI (X : Cx) (tg iter : Expr) (wi : TI) : Prop :=
  ∀ (pins : List (Addr × Obj)) (s : Shared) (σ : St) (H : Hp) (R : It → Hp → Prop), Inv X pins σ H s → wi σ H R →
    wpAny (model X.prog X.w) X.A (eval iter X.env) (fun v s1 => wpAny (model X.prog X.w) X.A (pyIter v) (PIE X pins σ tg R) X.xe s1) X.xe s

theorem go_of {M : Model} {A : Around} {E : Value → Shared → Prop} {s : Shared} {tg : Expr} {it : Addr} {u : Value} {o : Obj} {n : String} {vs : Array Value} {Q : Unit → Shared → Prop} (ho : s.heap.get? it = some o) (hc : o.cls = .type n) (hd : o.data = .fields vs)
    (hn : ["enumerate", "zip", "dict_itemiterator", "dict_reverseitemiterator", "odict_iterator", "itertools.zip_longest", "itertools.pairwise"].contains n = false) (hQ : Q () s) : wpAny M A (letOwnedTupleGo tg (.ref it) u) Q E s := by
  unfold letOwnedTupleGo
  cases tg <;> first
    | exact wpAny_pure hQ
    | (cases u <;> first
        | exact wpAny_pure hQ
        | (refine wpAny_bind (wpAny_load ho ?_)
           rw [hc, hd]
           show wpAny M A (if (["enumerate", "zip", "dict_itemiterator", "dict_reverseitemiterator", "odict_iterator", "itertools.zip_longest", "itertools.pairwise"].contains n && vs[0]? == some (rawInt _)) = true then _ else _) Q E s
           rw [if_neg (by intro h; rw [hn, Bool.false_and] at h; cases h)]
           exact wpAny_pure hQ))

def Itl (K : PySem.W.Frag) (a : Addr) : It :=
  ⟨fun i H => ∃ xs x, SqL K H a xs ∧ xs[i]? = some x, fun i H x H' => H' = H ∧ ∀ xs, SqL K H a xs → xs[i]? = some x, fun i H => ∃ xs, SqL K H a xs ∧ xs.length ≤ i⟩
def Itr (lo : Int) (n : Nat) : It := ⟨fun i _ => i < n, fun i H x H' => H' = H ∧ x = .int (lo + i), fun i _ => n ≤ i⟩
theorem turn_list {P : Program} {w : World} {K : PySem.W.Frag} {tg : Expr} (a it : Addr) : Turn P w K tg (Itl K a) [it] it (fun i h => h.IsListIter it a i) where
  mem := by simp
  obj := fun i h st b hb => by
    have e : b = it := by simpa using hb
    subst e
    obtain ⟨o, e, c, d⟩ := st
    exact ⟨o, e, fun v z => by rw [d] at z; cases z⟩
  keep := fun i h h' st k => st.at fun o e => k it (by simp) o e
  item := by
    intro X hP hw hK hc i pins s σ H E I hf st hg
    subst hP hw hK
    obtain ⟨xs, x, hq, hx⟩ := hg
    obtain ⟨its, rv, p, hz⟩ := I.list hq
    obtain ⟨u, hu, ru⟩ := rv.get hx
    obtain ⟨f0, f1, f2, f3, f4, f5⟩ := hf it (by simp)
    refine wpAny_pyNext_list_item st p.isList (x := u) (by simpa using hu) fun h' st' sb => ?_
    have I1 : Inv X pins σ H { s with heap := h' } := I.turned (t' := s.toks) (fun b o hb e => (sb.2 b hb).trans e) f0 f1 f3 f4 f5
    obtain ⟨o, e, c, d⟩ := id st'
    exact ⟨u, rfl, go_of (s := { s with heap := h' }) e c d (by decide) ⟨x, H, I1, ru, ⟨rfl, fun ys hy => by rw [I.list_inj hy hq]; exact hx⟩, st', fun b hb => (hf b hb).1⟩⟩
  done := by
    intro X hP hw hK hc i pins s σ H E I hf st hg
    subst hP hw hK
    obtain ⟨xs, hq, hx⟩ := hg
    obtain ⟨its, rv, p, hz⟩ := I.list hq
    obtain ⟨f0, f1, f2, f3, f4, f5⟩ := hf it (by simp)
    have hl := rv.length
    exact wpAny_pyNext_list_end (I.ok.hd hc) st p.isList (by simp; omega) fun h' eb => ⟨rfl, I.turned (t' := s.toks) (fun b o hb e => eb b o hb e) f0 f1 f3 f4 f5⟩
  self := fun _ _ _ _ _ st h => wpAny_pyIter_listiter st h
theorem turn_range {P : Program} {w : World} {K : PySem.W.Frag} {tg : Expr} (it : Addr) (lo : Int) (n : Nat) : Turn P w K tg (Itr lo n) [it] it (fun i h => IsRangeIter h it (lo + (i : Nat) * 1) ((n : Int) - (i : Nat)) 1) where
  mem := by simp
  obj := fun i h st b hb => by
    have e : b = it := by simpa using hb
    subst e
    exact ⟨_, st, fun v z => by
      have z' : Data.fields _ = Data.cell v := z
      cases z'⟩
  keep := fun i h h' st k => k it (by simp) _ st
  item := by
    intro X hP hw hK hc i pins s σ H E I hf st hg
    subst hP hw hK
    obtain ⟨f0, f1, f2, f3, f4, f5⟩ := hf it (by simp)
    have W := Walks.range (prog := X.prog) (w := X.w) (I.ok.hd hc) it lo 1 n
    refine W.item i s _ _ hg st fun v h' tk hv st' kk => ?_
    obtain ⟨t, rfl⟩ := hv
    have I1 : Inv X pins σ H { s with heap := h', toks := tk } := I.turned (fun b o hb e => kk b o (by simpa using hb) e) f0 f1 f3 f4 f5
    refine ⟨_, rfl, go_of (s := { s with heap := h', toks := tk }) (n := "range_iterator") st' rfl rfl (by decide) ⟨.int (lo + i), H, I1, ⟨t, ?_⟩, ⟨rfl, rfl⟩, st', fun b hb => (hf b hb).1⟩⟩
    rw [Int.mul_one]
  done := by
    intro X hP hw hK hc i pins s σ H E I hf st hg
    subst hP hw hK
    obtain ⟨f0, f1, f2, f3, f4, f5⟩ := hf it (by simp)
    exact wpAny_pyNext_range_end (I.ok.hd hc) st (by have : n ≤ i := hg; omega) fun h' eb => ⟨rfl, I.turned (t' := s.toks) (fun b o hb e => eb b o hb e) f0 f1 f3 f4 f5⟩
  self := fun _ _ _ _ _ st h => wpAny_pyIter_rangeiter st h
end L2
namespace L2
open PySem PySem.Spec PyProof.Rows
section
variable {X : Cx} {tg : Expr}
def iList (K : PySem.W.Frag) (tl : TE) : TI := fun σ H R => tl σ H fun x H1 => ∃ a, x = .ref a ∧ (∃ xs, SqL K H1 a xs) ∧ R (Itl K a) H1
theorem pi_list {l : Expr} {tl : TE} (hl : PE X l tl) : PI X tg l (iList X.K tl) := by
  intro pins s σ H R I h
  refine thn (hl pins s σ H _ I h) fun v s1 ⟨x, H1, I1, r1, q1⟩ => ?_
  obtain ⟨a, e, ⟨xs, hq⟩, q⟩ := q1
  subst e
  cases r1
  obtain ⟨its, rv, p, hz⟩ := I1.list hq
  refine wpAny_pyIter_list p.isList ?_
  refine ⟨s1.heap.objs.size, [s1.heap.objs.size], _, _, H1, rfl, I1.kept (t' := s1.toks) fun b o e => Heap.get?_push_of_some _ e, turn_list a _, ⟨_, Heap.get?_push_size _ rfl, rfl, rfl⟩, fun b hb => ?_, q⟩
  have e : b = s1.heap.objs.size := by simpa using hb
  subst e
  exact I1.fpOk (Nat.le_refl _) (I1.hok.fresh (Nat.le_refl _))
theorem range_it {pins : List (Addr × Obj)} {σ : St} {H : Hp} {s : Shared} {R : It → Hp → Prop} {E : Value → Shared → Prop} {lo hi : Int} {t u v : Tok} {tk : Nat} (I : Inv X pins σ H s) (h1 : -(2 ^ 62) ≤ lo) (h2 : lo < 2 ^ 62) (h3 : -(2 ^ 62) ≤ hi) (h4 : hi < 2 ^ 62)
    (q : R (Itr lo (hi - lo).toNat) H) : wpAny (model X.prog X.w) X.A (pyIter (.ref s.heap.objs.size)) (PIE X pins σ tg R) E { s with heap := s.heap.push { cls := .type "range", data := .fields #[.int lo t, .int hi u, .int 1 v] }, toks := tk } := by
  refine wpAny_pyIter_range (IsRange.new ..) (small_one h1 h2 h3 h4) ?_
  have I1 : Inv X pins σ H { s with heap := s.heap.push { cls := .type "range", data := .fields #[.int lo t, .int hi u, .int 1 v] }, toks := tk } := I.kept fun b o e => Heap.get?_push_of_some _ e
  refine ⟨(s.heap.push { cls := .type "range", data := .fields #[.int lo t, .int hi u, .int 1 v] }).objs.size, [(s.heap.push { cls := .type "range", data := .fields #[.int lo t, .int hi u, .int 1 v] }).objs.size], _, _, H, rfl,
    I1.kept (t' := tk) fun b o e => Heap.get?_push_of_some _ e, turn_range _ lo (hi - lo).toNat, ?_, fun b hb => ?_, q⟩
  · have e1 : lo + ((0 : Nat) : Int) * 1 = lo := by simp
    have e2 : (((hi - lo).toNat : Nat) : Int) - ((0 : Nat) : Int) = Builtin.Range.rangeSize lo hi 1 := by rw [rangeSize_one]; split <;> omega
    show IsRangeIter _ _ (lo + ((0 : Nat) : Int) * 1) ((((hi - lo).toNat : Nat) : Int) - ((0 : Nat) : Int)) 1
    rw [e1, e2]
    exact Heap.get?_push_size _ rfl
  · have e : b = (s.heap.push { cls := .type "range", data := .fields #[.int lo t, .int hi u, .int 1 v] }).objs.size := by simpa using hb
    subst e
    exact I1.fpOk (Nat.le_refl _) (I1.hok.fresh (Nat.le_refl _))
def iRng1 (ta : TA) : TI := fun σ H R => ta σ H fun vs H1 => ∃ j : Int, vs = [.int j] ∧ -(2 ^ 62) ≤ j ∧ j < 2 ^ 62 ∧ R (Itr 0 j.toNat) H1
def iRng2 (ta : TA) : TI := fun σ H R => ta σ H fun vs H1 => ∃ i j : Int, vs = [.int i, .int j] ∧ (-(2 ^ 62) ≤ i ∧ i < 2 ^ 62 ∧ -(2 ^ 62) ≤ j ∧ j < 2 ^ 62) ∧ R (Itr i (j - i).toNat) H1
theorem pi_range1 {a : Expr} {ta : TA} {p pos : Pos} (hg : Gl X "range") (hm : X.mg "range" = none) (ha : PA X [a] ta) (hs : starEach [a] X.env = [(false, eval a X.env)] := by rfl) : PI X tg (.Call (.Name "range" p) [a] [] pos) (iRng1 ta) := by
  intro pins s σ H R I h
  refine Call_ (ld_blt I hg hm boot_range (PyProof.Rows.callWith_type1 (thn (ha pos pins s σ H _ I h) fun us s1 ⟨vs, H1, I1, r1, q1⟩ => ?_) hs rfl))
  obtain ⟨j, e, q1, q2, q⟩ := q1
  subst e
  cases r1 with
  | cons r rr =>
    cases rr
    obtain ⟨t, rfl⟩ := r
    exact call_range_1 (range_it I1 (by omega) (by omega) q1 q2 (by simpa using q))
theorem pi_range2 {a b : Expr} {ta : TA} {p pos : Pos} (hg : Gl X "range") (hm : X.mg "range" = none) (ha : PA X [a, b] ta) (hs : starEach [a, b] X.env = [(false, eval a X.env), (false, eval b X.env)] := by rfl) (hs2 : starEach [b] X.env = [(false, eval b X.env)] := by rfl) :
    PI X tg (.Call (.Name "range" p) [a, b] [] pos) (iRng2 ta) := by
  intro pins s σ H R I h
  refine Call_ (ld_blt I hg hm boot_range (PyProof.Rows.callWith_type1 (thn (ha pos pins s σ H _ I h) fun us s1 ⟨vs, H1, I1, r1, q1⟩ => ?_) (by rw [hs, hs2]) (by rw [hs2]; rfl)))
  obtain ⟨i, j, e, ⟨q1, q2, q3, q4⟩, q⟩ := q1
  subst e
  cases r1 with
  | cons r rr =>
    cases rr with
    | cons r' rr =>
      cases rr
      obtain ⟨t, rfl⟩ := r
      obtain ⟨t', rfl⟩ := r'
      exact call_range_2 (range_it I1 q1 q2 q3 q4 q)

def tFor (wi : TI) (g : TG) (tb : TS) : TS := fun D σ H => wi σ H fun J H1 => ∃ W : Nat → Nat → St → Hp → Prop, (∃ m, W 0 m σ H1) ∧ ∀ i m σ H, W i m σ H →
  (J.stop i H ∧ D.nx σ H) ∨ (J.go i H ∧ ∃ N : St → Hp → Prop, (∀ σ' H', N σ' H' → ∃ m', m' < m ∧ W (i + 1) m' σ' H') ∧ ∀ x H', J.yld i H x H' → g x σ H' fun σ2 H2 => tb { D with nx := N, ct := N, bk := D.nx } σ2 H2)
def pinsAt (fp : List Addr) (h : Heap) : List (Addr × Obj) := fp.filterMap fun b => (h.get? b).map fun o => (b, o)
theorem mem_pinsAt {fp : List Addr} {h : Heap} {b : Addr} {o : Obj} (hb : b ∈ fp) (e : h.get? b = some o) : (b, o) ∈ pinsAt fp h := List.mem_filterMap.mpr ⟨b, hb, by rw [e]; rfl⟩
theorem of_pinsAt {fp : List Addr} {h : Heap} {p : Addr × Obj} (hp : p ∈ pinsAt fp h) : p.1 ∈ fp ∧ h.get? p.1 = some p.2 := by
  obtain ⟨b, hb, e⟩ := List.mem_filterMap.mp hp
  cases q : h.get? b with
  | none => rw [q] at e; cases e
  | some o =>
    rw [q] at e
    have e' : (b, o) = p := Option.some.inj e
    subst e'
    exact ⟨hb, q⟩
theorem Inv.pinned {pins : List (Addr × Obj)} {σ : St} {H : Hp} {s : Shared} {fp : List Addr} (I : Inv X pins σ H s) (hf : ∀ b ∈ fp, FpOk X pins H b) (ho : ∀ b ∈ fp, ∃ o, s.heap.get? b = some o ∧ ∀ v, o.data ≠ .cell v) : Inv X (pins ++ pinsAt fp s.heap) σ H s :=
  I.pins_of fun p hp => (List.mem_append.mp hp).elim (fun z => I.pin p (List.mem_append_right _ z)) fun z => by
    obtain ⟨hb, e⟩ := of_pinsAt z
    obtain ⟨f0, f1, f2, _⟩ := hf p.1 hb
    obtain ⟨o, e', d⟩ := ho p.1 hb
    rw [e] at e'; cases e'
    exact ⟨e, f0, f1, f2, d⟩
theorem Inv.unpinned {pins pl : List (Addr × Obj)} {σ : St} {H : Hp} {s : Shared} (I : Inv X (pins ++ pl) σ H s) : Inv X pins σ H s := I.pins_of fun p hp => I.pin p (List.mem_append_right _ (List.mem_append_left _ hp))
theorem ps_for {iter : Expr} {body : List Stmt} {wi : TI} {g : TG} {tb : TS} {pos : Pos} (hp : PassesOwn (model X.prog X.w) X.A X.env X.xe) (hc : X.calm = true) (hi : PI X tg iter wi) (hg : PG X tg g) (hb : PSs X body tb)
    (hs : ∀ x, foldedSetIterable iter X.env x = pure x := by intro _; rfl) : PS X (.For tg iter body [] pos) (tFor wi g tb) := by
  intro pins s σ H D I h
  refine wpAny_For (thn (hi pins s σ H _ I h) fun v s1 h1 => thn h1 fun itv s2 h2 => ?_) hs
  obtain ⟨it, fp, tn, J, H2, e, I2, T, st2, f2, W, ⟨m0, w0⟩, turn⟩ := h2
  subst e
  -- what stays true of the iterator's objects through the loop
  have stat : ∀ {H' : Hp}, (∀ b ∈ fp, H' b = none) → ∀ b ∈ fp, FpOk X pins H' b := fun hn b hb => ⟨hn b hb, (f2 b hb).2⟩
  refine codeAny_forLoop_any (fun n s' => ∃ i σ' H', Inv X pins σ' H' s' ∧ tn i s'.heap ∧ (∀ b ∈ fp, H' b = none) ∧ W i n σ' H') ?_ m0 ⟨0, σ, H2, I2, st2, fun b hb => (f2 b hb).1, w0⟩
  rintro n s3 ⟨i, σ3, H3, I3, st3, fr3, w3⟩
  rcases turn i n σ3 H3 w3 with ⟨stop, qn⟩ | ⟨go, N, hN, step⟩
  · refine wpAny_passesOwn hp (thn (T.done X rfl rfl rfl hc i pins s3 σ3 H3 X.xe I3 (stat fr3) st3 stop) fun r s4 ⟨hr, I4⟩ => ?_)
    subst hr
    exact wpAny_execs_nil ⟨σ3, H3, I4, qn⟩
  · refine wpAny_passesOwn hp (thn (T.item X rfl rfl rfl hc i pins s3 σ3 H3 X.xe I3 (stat fr3) st3 go) fun r s4 ⟨u, hr, h4⟩ => ?_)
    subst hr
    refine wpAny_passesOwn hp (thn h4 fun _ s5 ⟨x, H5, I5, r5, y5, st5, fr5⟩ => ?_)
    have I5' := I5.pinned (stat fr5) (T.obj _ _ st5)
    refine wpAny_passesOwn hp (thn (hg _ s5 σ3 H5 x u _ I5' r5 (step x H5 y5)) fun _ s6 ⟨σ6, H6, I6, q6⟩ => ?_)
    refine wpAny_passesOwn hp (thn (hb _ s6 σ6 H6 _ I6 q6) fun f s7 q7 => ?_)
    have again : ∀ {σ7 : St} {H7 : Hp}, Inv X (pins ++ pinsAt fp s5.heap) σ7 H7 s7 → N σ7 H7 → ∃ m, m < n ∧ ∃ i σ' H', Inv X pins σ' H' s7 ∧ tn i s7.heap ∧ (∀ b ∈ fp, H' b = none) ∧ W i m σ' H' := fun {σ7 H7} I7 n7 => by
      obtain ⟨m', hm, w7⟩ := hN σ7 H7 n7
      refine ⟨m', hm, i + 1, σ7, H7, I7.unpinned, T.keep _ _ _ st5 fun b hb o e => (I7.pin (b, o) (List.mem_append_right _ (List.mem_append_right _ (mem_pinsAt hb e)))).1, fun b hb => ?_, w7⟩
      obtain ⟨o, e, d⟩ := T.obj _ _ st5 b hb
      exact (I7.pin (b, o) (List.mem_append_right _ (List.mem_append_right _ (mem_pinsAt hb e)))).2.1
    cases f with
    | next => obtain ⟨σ7, H7, I7, n7⟩ := q7; exact again I7 n7
    | cont => obtain ⟨σ7, H7, I7, n7⟩ := q7; exact again I7 n7
    | brk => obtain ⟨σ7, H7, I7, q7⟩ := q7; exact ⟨σ7, H7, I7.unpinned, q7⟩
    | ret v => obtain ⟨x7, σ7, H7, I7, r7, q7⟩ := q7; exact ⟨x7, σ7, H7, I7.unpinned, r7, q7⟩
end
theorem for_list {K : PySem.W.Frag} {a : Addr} {xs : List V} {g : TG} {tb : TS} {D : Ends} {σ : St} {H : Hp} (Pv : Nat → St → Hp → Prop) (h0 : Pv 0 σ H) (hl : ∀ i σ H, i ≤ xs.length → Pv i σ H → SqL K H a xs)
    (hs : ∀ i x σ H, xs[i]? = some x → Pv i σ H → g x σ H fun σ2 H2 => tb { D with nx := Pv (i + 1), ct := Pv (i + 1), bk := D.nx } σ2 H2) (hd : ∀ σ H, Pv xs.length σ H → D.nx σ H) :
    ∃ W : Nat → Nat → St → Hp → Prop, (∃ m, W 0 m σ H) ∧ ∀ i m σ H, W i m σ H →
      ((Itl K a).stop i H ∧ D.nx σ H) ∨ ((Itl K a).go i H ∧ ∃ N : St → Hp → Prop, (∀ σ' H', N σ' H' → ∃ m', m' < m ∧ W (i + 1) m' σ' H') ∧ ∀ x H', (Itl K a).yld i H x H' → g x σ H' fun σ2 H2 => tb { D with nx := N, ct := N, bk := D.nx } σ2 H2) := by
  refine ⟨fun i m σ H => m = xs.length - i ∧ i ≤ xs.length ∧ Pv i σ H, ⟨xs.length, by simp, Nat.zero_le _, h0⟩, ?_⟩
  rintro i m σ H ⟨rfl, hi, p⟩
  have q := hl i σ H hi p
  by_cases hlt : i < xs.length
  · refine .inr ⟨⟨xs, xs[i], q, by simp [hlt]⟩, Pv (i + 1), fun σ' H' p' => ⟨xs.length - (i + 1), by omega, rfl, hlt, p'⟩, fun x H' y => ?_⟩
    obtain ⟨e, y⟩ := y
    subst e
    exact hs i x σ _ (y xs q) p
  · have e : i = xs.length := by omega
    subst e
    exact .inl ⟨⟨xs, q, Nat.le_refl _⟩, hd σ H p⟩
theorem for_range {lo : Int} {n : Nat} {g : TG} {tb : TS} {D : Ends} {σ : St} {H : Hp} (Pv : Nat → St → Hp → Prop) (h0 : Pv 0 σ H)
    (hs : ∀ i σ H, i < n → Pv i σ H → g (.int (lo + i)) σ H fun σ2 H2 => tb { D with nx := Pv (i + 1), ct := Pv (i + 1), bk := D.nx } σ2 H2) (hd : ∀ σ H, Pv n σ H → D.nx σ H) :
    ∃ W : Nat → Nat → St → Hp → Prop, (∃ m, W 0 m σ H) ∧ ∀ i m σ H, W i m σ H →
      ((Itr lo n).stop i H ∧ D.nx σ H) ∨ ((Itr lo n).go i H ∧ ∃ N : St → Hp → Prop, (∀ σ' H', N σ' H' → ∃ m', m' < m ∧ W (i + 1) m' σ' H') ∧ ∀ x H', (Itr lo n).yld i H x H' → g x σ H' fun σ2 H2 => tb { D with nx := N, ct := N, bk := D.nx } σ2 H2) := by
  refine ⟨fun i m σ H => m = n - i ∧ i ≤ n ∧ Pv i σ H, ⟨n, by simp, Nat.zero_le _, h0⟩, ?_⟩
  rintro i m σ H ⟨rfl, hi, p⟩
  by_cases hlt : i < n
  · refine .inr ⟨hlt, Pv (i + 1), fun σ' H' p' => ⟨n - (i + 1), by omega, rfl, hlt, p'⟩, fun x H' y => ?_⟩
    obtain ⟨e, y⟩ := y
    subst e y
    exact hs i σ _ hlt p
  · have e : i = n := by omega
    subst e
    exact .inl ⟨Nat.le_refl _, hd σ H p⟩
end L2
namespace L2
open PySem PySem.Spec PyProof.Rows
abbrev R2 := V → V → Hp → VK → Prop
def OpR (X : Cx) (f : Value → Value → Sem Value) (r : R2) : Prop :=
  ∀ (pins : List (Addr × Obj)) (s : Shared) (σ : St) (H : Hp) (x y : V) (v u : Value) (Q : VK), Inv X pins σ H s → RelV x v → RelV y u → r x y H Q →
    wpAny (model X.prog X.w) X.A (f v u) (EP X pins σ Q) X.xe s
def UnR (X : Cx) (f : Value → Sem Value) (r : V → Hp → VK → Prop) : Prop :=
  ∀ (pins : List (Addr × Obj)) (s : Shared) (σ : St) (H : Hp) (x : V) (v : Value) (Q : VK), Inv X pins σ H s → RelV x v → r x H Q →
    wpAny (model X.prog X.w) X.A (f v) (EP X pins σ Q) X.xe s
def CallR (X : Cx) (f : Value) (r : List V → Hp → VK → Prop) : Prop :=
  ∀ (pins : List (Addr × Obj)) (s : Shared) (σ : St) (H : Hp) (xs : List V) (us : List Value) (Q : VK), Inv X pins σ H s → Vals xs us → r xs H Q →
    wpAny (model X.prog X.w) X.A (call f us) (EP X pins σ Q) X.xe s
def tOp (r : R2) (ta tb : TE) : TE := fun σ H Q => ta σ H fun x H1 => tb σ H1 fun y H2 => r x y H2 Q
def tUn (r : V → Hp → VK → Prop) (ta : TE) : TE := fun σ H Q => ta σ H fun x H1 => r x H1 Q
def rI (C : Int → Int → Prop) (g : Int → Int → V) : R2 := fun x y H Q => ∃ i j, x = .int i ∧ y = .int j ∧ C i j ∧ Q (g i j) H
def rI0 (g : Int → Int → V) : R2 := fun x y H Q => ∃ i j, x = .int i ∧ y = .int j ∧ Q (g i j) H
def rU (g : Int → V) : V → Hp → VK → Prop := fun x H Q => ∃ i, x = .int i ∧ Q (g i) H

section
variable {X : Cx} {a b c : Expr} {ta tb tc : TE} {pos : Pos}
theorem binT (ha : PE X a ta) (hb : PE X b tb) {pins : List (Addr × Obj)} {s : Shared} {σ : St} {H : Hp} {R : V → V → Hp → Prop} (I : Inv X pins σ H s)
    (h : ta σ H fun x H1 => tb σ H1 fun y H2 => R x y H2) {Q : Value → Shared → Prop} {f : Value → Value → Sem Value}
    (hf : ∀ v u s2 x y H2, Inv X pins σ H2 s2 → RelV x v → RelV y u → R x y H2 → wpAny (model X.prog X.w) X.A (f v u) Q X.xe s2) :
    wpAny (model X.prog X.w) X.A (eval a X.env) (fun v s₁ => wpAny (model X.prog X.w) X.A (eval b X.env) (fun u s₂ => wpAny (model X.prog X.w) X.A (f v u) Q X.xe s₂) X.xe s₁) X.xe s := by
  refine thn (ha pins s σ H _ I h) fun v s1 ⟨x, H1, I1, r1, q1⟩ => ?_
  refine thn (hb pins s1 σ H1 _ I1 q1) fun u s2 ⟨y, H2, I2, r2, q2⟩ => ?_
  exact hf v u s2 x y H2 I2 r1 r2 q2

theorem pe_op {op : Operator} {r : R2} (ho : OpR X (binaryOp op) r) (ha : PE X a ta) (hb : PE X b tb) : PE X (.BinOp a op b pos) (tOp r ta tb) := by
  intro pins s σ H Q I h
  exact wpAny_BinOp (binT ha hb I h fun v u s2 x y H2 I2 rx ry q => ho pins s2 σ H2 x y v u Q I2 rx ry q)
theorem pe_un {op : UnaryOp} {r : V → Hp → VK → Prop} (ho : UnR X (unaryOp op) r) (ha : PE X a ta) : PE X (.UnaryOp op a pos) (tUn r ta) := by
  intro pins s σ H Q I h
  exact UnaryOp_ (thn (ha pins s σ H _ I h) fun v s1 ⟨x, H1, I1, r1, q1⟩ => ho pins s1 σ H1 x v Q I1 r1 q1)
theorem opI {f : Value → Value → Sem Value} {C : Int → Int → Prop} {g : Int → Int → Int}
    (rule : ∀ (i j : Int) (t u : Tok) (s : Shared) (Q : Value → Shared → Prop) (E : Value → Shared → Prop), C i j → Q (.int (g i j) s.toks) { s with toks := s.toks + 1 } → wpAny (model X.prog X.w) X.A (f (.int i t) (.int j u)) Q E s) :
    OpR X f (rI C fun i j => .int (g i j)) := by
  intro pins s σ H x y v u Q I rx ry h
  obtain ⟨i, j, rfl, rfl, hc, q⟩ := h
  obtain ⟨t, rfl⟩ := rx
  obtain ⟨t', rfl⟩ := ry
  exact rule i j t t' s _ _ hc ⟨.int (g i j), H, I.tok _, ⟨_, rfl⟩, q⟩
theorem opI0 {f : Value → Value → Sem Value} {g : Int → Int → Int}
    (rule : ∀ (i j : Int) (t u : Tok) (s : Shared) (Q : Value → Shared → Prop) (E : Value → Shared → Prop), Q (.int (g i j) s.toks) { s with toks := s.toks + 1 } → wpAny (model X.prog X.w) X.A (f (.int i t) (.int j u)) Q E s) :
    OpR X f (rI0 fun i j => .int (g i j)) := by
  intro pins s σ H x y v u Q I rx ry h
  obtain ⟨i, j, rfl, rfl, q⟩ := h
  obtain ⟨t, rfl⟩ := rx
  obtain ⟨t', rfl⟩ := ry
  exact rule i j t t' s _ _ ⟨.int (g i j), H, I.tok _, ⟨_, rfl⟩, q⟩
theorem opB0 {f : Value → Value → Sem Value} {g : Int → Int → Bool}
    (rule : ∀ (i j : Int) (t u : Tok) (s : Shared) (Q : Value → Shared → Prop) (E : Value → Shared → Prop), Q (.bool (g i j)) s → wpAny (model X.prog X.w) X.A (f (.int i t) (.int j u)) Q E s) :
    OpR X f (rI0 fun i j => .bl (g i j)) := by
  intro pins s σ H x y v u Q I rx ry h
  obtain ⟨i, j, rfl, rfl, q⟩ := h
  obtain ⟨t, rfl⟩ := rx
  obtain ⟨t', rfl⟩ := ry
  exact rule i j t t' s _ _ ⟨.bl (g i j), H, I, rfl, q⟩

def CPow (i j : Int) : Prop := 0 ≤ j ∧ j ≤ 1000000 ∧ i.natAbs < 2 ^ 64
def CMul (i j : Int) : Prop := (-(2 ^ 64) < i ∧ i < 2 ^ 64) ∨ (-(2 ^ 64) < j ∧ j < 2 ^ 64)
theorem CMul.ok {i j : Int} (h : CMul i j) : IntMulOk i j := by
  rcases h with ⟨h1, h2⟩ | ⟨h1, h2⟩
  · exact .of_left (intBits_le_64 h1 h2)
  · exact .of_right (intBits_le_64 h1 h2)
theorem op_add : OpR X (binaryOp .Add) (rI0 fun i j => .int (i + j)) := opI0 fun _ _ _ _ _ _ _ q => add_int q
theorem op_sub : OpR X (binaryOp .Sub) (rI0 fun i j => .int (i - j)) := opI0 fun _ _ _ _ _ _ _ q => sub_int q
theorem op_mod : OpR X (binaryOp .Mod) (rI (fun _ j => 0 < j) fun i j => .int (i % j)) := opI fun i j _ _ _ _ _ hc q => by
  have h1 : (0 : Int) < j := hc
  exact mod_int' (by omega) (by rw [Int.fmod_eq_emod_of_nonneg i (by omega)]; exact q)
theorem op_pow : OpR X (binaryOp .Pow) (rI CPow fun i j => .int (i ^ j.toNat)) := opI fun _ _ _ _ _ _ _ hc q => pow_int_small hc.1 hc.2.1 hc.2.2 q
theorem unI {f : Value → Sem Value} {g : Int → Int}
    (rule : ∀ (i : Int) (t : Tok) (s : Shared) (Q : Value → Shared → Prop) (E : Value → Shared → Prop), Q (.int (g i) s.toks) { s with toks := s.toks + 1 } → wpAny (model X.prog X.w) X.A (f (.int i t)) Q E s) :
    UnR X f (rU fun i => .int (g i)) := by
  intro pins s σ H x v Q I rx h
  obtain ⟨i, rfl, q⟩ := h
  obtain ⟨t, rfl⟩ := rx
  exact rule i t s _ _ ⟨.int (g i), H, I.tok _, ⟨_, rfl⟩, q⟩
theorem un_neg : UnR X (unaryOp .USub) (rU fun i => .int (-i)) := unI fun _ _ _ _ _ q => neg_int q
end
def scal : V → V → Bool
  | .non, .non => true | .non, .int _ => true | .int _, .non => true | .non, .bl _ => true | .bl _, .non => true | .non, .str _ => true | .str _, .non => true
  | .int _, .int _ => true | .bl _, .bl _ => true | .str _, .str _ => true | .byt _, .byt _ => true
  | .int _, .str _ => true | .str _, .int _ => true | .bl _, .str _ => true | .str _, .bl _ => true
  | _, _ => false
def rEq : R2 := fun x y H Q => scal x y = true ∧ Q (.bl (decide (x = y))) H
def rNe : R2 := fun x y H Q => scal x y = true ∧ Q (.bl (!decide (x = y))) H

theorem dec_int {i j : Int} : decide (V.int i = V.int j) = (i == j) := by
  rw [Bool.eq_iff_iff]
  simp
theorem dec_bl {i j : Bool} : decide (V.bl i = V.bl j) = (i == j) := by
  rw [Bool.eq_iff_iff]
  simp
theorem dec_str {i j : Str} : decide (V.str i = V.str j) = (i == j) := by
  rw [Bool.eq_iff_iff]
  simp
theorem dec_byt {i j : Array UInt8} : decide (V.byt i = V.byt j) = (i.toList == j.toList) := by
  rw [Bool.eq_iff_iff]
  cases i
  cases j
  simp

section
variable {X : Cx} {a b c : Expr} {ta tb tc : TE} {pos : Pos}
theorem fin_bl {pins : List (Addr × Obj)} {σ : St} {H : Hp} {s : Shared} {Q : VK} {k k' : Bool} (I : Inv X pins σ H s) (q : Q (.bl k) H) (e : k = k') : EP X pins σ Q (.bool k') s := by
  subst e
  exact ⟨.bl k, H, I, rfl, q⟩
theorem op_eq : OpR X (compareOp .Eq) rEq := by
  intro pins s σ H x y v u Q I rx ry h
  obtain ⟨hs, q⟩ := h
  cases x with
  | non =>
    cases rx
    cases y with
    | non => cases ry; exact PySem.EqNone.eq_none_none (fin_bl I q (by simp))
    | bl j => cases ry; exact PySem.EqNone.eq_none_bool (fin_bl I q (by simp))
    | int j => obtain ⟨t', rfl⟩ := ry; exact PySem.EqNone.eq_none_int (fin_bl I q (by simp))
    | str j => obtain ⟨t', rfl⟩ := ry; exact PySem.EqNone.eq_none_str (fin_bl I q (by simp))
    | _ => exact absurd (show false = true from hs) Bool.false_ne_true
  | bl i =>
    cases rx
    cases y with
    | non => cases ry; exact PySem.EqNone.eq_bool_none (fin_bl I q (by simp))
    | bl j => cases ry; exact eq_bool (fin_bl I q dec_bl)
    | str j => obtain ⟨t', rfl⟩ := ry; exact PySem.EqMixed.eq_bool_str (fin_bl I q (by simp))
    | _ => exact absurd (show false = true from hs) Bool.false_ne_true
  | int i =>
    obtain ⟨t, rfl⟩ := rx
    cases y with
    | non => cases ry; exact PySem.EqNone.eq_int_none (fin_bl I q (by simp))
    | int j => obtain ⟨t', rfl⟩ := ry; exact eq_int (fin_bl I q dec_int)
    | str j => obtain ⟨t', rfl⟩ := ry; exact PySem.EqMixed.eq_int_str (fin_bl I q (by simp))
    | _ => exact absurd (show false = true from hs) Bool.false_ne_true
  | str i =>
    obtain ⟨t, rfl⟩ := rx
    cases y with
    | non => cases ry; exact PySem.EqNone.eq_str_none (fin_bl I q (by simp))
    | bl j => cases ry; exact PySem.EqMixed.eq_str_bool (fin_bl I q (by simp))
    | int j => obtain ⟨t', rfl⟩ := ry; exact PySem.EqMixed.eq_str_int (fin_bl I q (by simp))
    | str j => obtain ⟨t', rfl⟩ := ry; exact eq_str (fin_bl I q dec_str)
    | _ => exact absurd (show false = true from hs) Bool.false_ne_true
  | byt i =>
    obtain ⟨t, rfl⟩ := rx
    cases y with
    | byt j => obtain ⟨t', rfl⟩ := ry; exact PySem.W.eq_bytes (fin_bl I q dec_byt)
    | _ => exact absurd (show false = true from hs) Bool.false_ne_true
  | _ => cases y <;> exact absurd (show false = true from hs) Bool.false_ne_true
theorem op_ne : OpR X (compareOp .NotEq) rNe := by
  intro pins s σ H x y v u Q I rx ry h
  obtain ⟨hs, q⟩ := h
  cases x with
  | non =>
    cases rx
    cases y with
    | non => cases ry; exact PySem.EqNone.ne_none_none (fin_bl I q (by simp))
    | bl j => cases ry; exact PySem.EqNone.ne_none_bool (fin_bl I q (by simp))
    | int j => obtain ⟨t', rfl⟩ := ry; exact PySem.EqNone.ne_none_int (fin_bl I q (by simp))
    | str j => obtain ⟨t', rfl⟩ := ry; exact PySem.EqNone.ne_none_str (fin_bl I q (by simp))
    | _ => exact absurd (show false = true from hs) Bool.false_ne_true
  | bl i =>
    cases rx
    cases y with
    | non => cases ry; exact PySem.EqNone.ne_bool_none (fin_bl I q (by simp))
    | bl j => cases ry; exact ne_bool (fin_bl I q (congrArg not dec_bl))
    | str j => obtain ⟨t', rfl⟩ := ry; exact PySem.EqMixed.ne_bool_str (fin_bl I q (by simp))
    | _ => exact absurd (show false = true from hs) Bool.false_ne_true
  | int i =>
    obtain ⟨t, rfl⟩ := rx
    cases y with
    | non => cases ry; exact PySem.EqNone.ne_int_none (fin_bl I q (by simp))
    | int j => obtain ⟨t', rfl⟩ := ry; exact ne_int (fin_bl I q (congrArg not dec_int))
    | str j => obtain ⟨t', rfl⟩ := ry; exact PySem.EqMixed.ne_int_str (fin_bl I q (by simp))
    | _ => exact absurd (show false = true from hs) Bool.false_ne_true
  | str i =>
    obtain ⟨t, rfl⟩ := rx
    cases y with
    | non => cases ry; exact PySem.EqNone.ne_str_none (fin_bl I q (by simp))
    | bl j => cases ry; exact PySem.EqMixed.ne_str_bool (fin_bl I q (by simp))
    | int j => obtain ⟨t', rfl⟩ := ry; exact PySem.EqMixed.ne_str_int (fin_bl I q (by simp))
    | str j => obtain ⟨t', rfl⟩ := ry; exact ne_str (fin_bl I q (congrArg not dec_str))
    | _ => exact absurd (show false = true from hs) Bool.false_ne_true
  | byt i =>
    obtain ⟨t, rfl⟩ := rx
    cases y with
    | byt j => obtain ⟨t', rfl⟩ := ry; exact PySem.W.ne_bytes (fin_bl I q (congrArg not dec_byt))
    | _ => exact absurd (show false = true from hs) Bool.false_ne_true
  | _ => cases y <;> exact absurd (show false = true from hs) Bool.false_ne_true

theorem op_lt : OpR X (compareOp .Lt) (rI0 fun i j => .bl (decide (i < j))) := opB0 fun _ _ _ _ _ _ _ q => lt_int q
theorem op_le : OpR X (compareOp .LtE) (rI0 fun i j => .bl (decide (i ≤ j))) := opB0 fun _ _ _ _ _ _ _ q => le_int q
theorem op_gt : OpR X (compareOp .Gt) (rI0 fun i j => .bl (decide (j < i))) := opB0 fun _ _ _ _ _ _ _ q => gt_int q
theorem op_isN : OpR X (compareOp .Is) (fun x y H Q => y = .non ∧ Q (.bl (decide (x = .non))) H) := by
  intro pins s σ H x y v u Q I rx ry h
  obtain ⟨rfl, q⟩ := h
  cases ry
  refine is_none_gen (fin_bl I q ?_)
  cases x <;> first
    | (cases rx; rfl)
    | (obtain ⟨t, rfl⟩ := rx; rfl)
theorem op_notN : OpR X (compareOp .IsNot) (fun x y H Q => y = .non ∧ Q (.bl (!decide (x = .non))) H) := by
  intro pins s σ H x y v u Q I rx ry h
  obtain ⟨rfl, q⟩ := h
  cases ry
  refine isnot_none_gen (fin_bl I q ?_)
  cases x <;> first
    | (cases rx; rfl)
    | (obtain ⟨t, rfl⟩ := rx; rfl)

theorem nomark (b : Expr) {op : CmpOp} (h : op ≠ .In := by decide) (h2 : op ≠ .NotIn := by decide) : behindInMarks op b = false := by
  have e1 : (op == CmpOp.In) = false := by cases op <;> first | rfl | exact absurd rfl h
  have e2 : (op == CmpOp.NotIn) = false := by cases op <;> first | rfl | exact absurd rfl h2
  cases b <;> simp [behindInMarks, e1, e2]
theorem pe_cmpR {op : CmpOp} {r : R2} (ho : OpR X (compareOp op) r) (ha : PE X a ta) (hb : PE X b tb) (hm : behindInMarks op b = false) : PE X (.Compare a [op] [b] pos) (tOp r ta tb) := by
  intro pins s σ H Q I h
  exact wpAny_Compare1 (binT ha hb I h fun v u s2 x y H2 I2 rx ry q => ho pins s2 σ H2 x y v u Q I2 rx ry q) hm
def tTest (t : TE) : TT := fun σ H Q => t σ H fun x H' => ∃ k, x = .bl k ∧ Q k H'
theorem pt_cmpR {op : CmpOp} {r : R2} (ho : OpR X (compareOp op) r) (ha : PE X a ta) (hb : PE X b tb) (hm : behindInMarks op b = false) : PT X (.Compare a [op] [b] pos) (tTest (tOp r ta tb)) := by
  intro pins s σ H Q I h
  refine wpAny_isTrue_Compare1 (thn (ha pins s σ H _ I h) fun v s1 ⟨x, H1, I1, r1, q1⟩ => thn (hb pins s1 σ H1 _ I1 q1) fun u s2 ⟨y, H2, I2, r2, q2⟩ =>
    thn (ho pins s2 σ H2 x y v u _ I2 r1 r2 q2) fun c s3 ⟨z, H3, I3, r3, k, e, q3⟩ => ?_) hm
  subst e
  cases r3
  exact wpAny_truthy_bool ⟨H3, I3, q3⟩
theorem line63 : (sizeLine : Nat) < 2 ^ 63 := by rw [sizeLine_eq]; decide
theorem vals1 {x : V} {us : List Value} (r : Vals [x] us) : ∃ u, us = [u] ∧ RelV x u := by
  cases r with
  | cons r1 r2 => cases r2; exact ⟨_, rfl, r1⟩
theorem vals2 {x y : V} {us : List Value} (r : Vals [x, y] us) : ∃ u w', us = [u, w'] ∧ RelV x u ∧ RelV y w' := by
  cases r with
  | cons r1 r2 =>
    cases r2 with
    | cons r3 r4 => cases r4; exact ⟨_, _, rfl, r1, r3⟩
theorem call_min2 (hc : X.calm = true) : CallR X (.builtin "min") (fun xs H Q => ∃ i j, xs = [.int i, .int j] ∧ Q (.int (if j < i then j else i)) H) := by
  intro pins s σ H xs us Q I r h
  obtain ⟨i, j, rfl, q⟩ := h
  obtain ⟨u, w', rfl, ⟨t, rfl⟩, ⟨t', rfl⟩⟩ := vals2 r
  refine min_two_ints (I.ok.hd hc) fun h' tk k => ⟨_, H, I.kept k, ?_, q⟩
  by_cases hj : j < i
  · rw [if_pos hj, if_pos hj]; exact ⟨_, rfl⟩
  · rw [if_neg hj, if_neg hj]; exact ⟨_, rfl⟩
end
end L2
namespace L2
open PySem PySem.Spec PyProof.Rows
structure ObjM (h : Heap) (x dx C : Addr) (mA : Str → Option Value) : Prop where
  obj : h.get? x = some (PySem.W.instObj C dx)
  ns : h.Ns1 dx mA
  ne : dx ≠ x

theorem lookIn_ns {h : Heap} {dx : Addr} {mA : Str → Option Value} (n : h.Ns1 dx mA) : ∃ od, h.get? dx = some od ∧ ∀ name, PySem.W.lookIn name od = some (mA name) := by
  obtain ⟨o, es, ep, ho, hd, hk, _, hm⟩ := n
  refine ⟨o, ho, fun name => ?_⟩
  have e := hm name
  unfold nsFind findBy at e
  rw [← Array.find?_toList] at e
  unfold PySem.W.lookIn
  rw [hd]
  dsimp only
  split
  · rename_i y q
    rw [q] at e
    exact congrArg some e
  · rename_i q
    rw [q] at e
    have a : es.toList.any (·.refKey) = false := by
      rw [List.any_eq_false]
      intro y hy
      obtain ⟨z, t, hkey⟩ := hk y (Array.mem_toList_iff.mp hy)
      simp [DictEntry.refKey, hkey]
    have a' : ¬ es.toList.any (·.refKey) = true := by rw [a]; exact Bool.false_ne_true
    rw [if_neg a']
    exact congrArg some e

theorem ObjM.look {h : Heap} {x dx C : Addr} {mA : Str → Option Value} (I : ObjM h x dx C mA) : ∃ od, PySem.W.InstAt h x (PySem.W.instObj C dx) C (some od) ∧ ∀ name, PySem.W.lookIn name od = some (mA name) :=
  let ⟨od, ho, hl⟩ := lookIn_ns I.ns
  ⟨od, ⟨I.obj, rfl, rfl, ho⟩, hl⟩

section
variable {prog : Program} {w : World} {A : Around} {E : Value → Shared → Prop} {s : Shared} {K : PySem.W.Frag} {x dx C f : Addr} {mA : Str → Option Value} {name : Str} {v : Value}
end
section
variable {P : Program} {w : World} {H H' : Hp} {h h' : Heap} {a C dx : Addr} {fs fs' : List (Str × V)}
theorem ins_get (hok : HOk P w H h) (e : H a = some (.ins C dx fs)) : ∃ mA, ObjM h a dx C mA ∧ (∀ f, RelO (fs.lookup f) (mA f)) ∧ PySem.Within mA (fs.map (·.1)) ∧ fs.length ≤ 1000 ∧ H dx = some (.own a) := by
  obtain ⟨d, z, ne, ob, mA, n, r, q⟩ := (show ObjOk P w H h a (.ins C dx fs) from hok a _ e)
  exact ⟨mA, ⟨ob, n, ne⟩, r, q, z, d⟩
end
structure Cls (K : PySem.W.Frag) (C : Addr) : Prop where
  pg : PySem.W.plainGet K C Str.empty = true
  hd : PySem.W.hasDictIn K C = true
  po : PySem.W.plainOver K C = true
  sa : PySem.W.findIn K (.ref C) "__setattr__" = some (some (.builtin "object.__setattr__"))
theorem Cls.get {K : PySem.W.Frag} {C : Addr} (c : Cls K C) (f : Str) : PySem.W.plainGet K C f = true := c.pg
section
variable {X : Cx} {pins : List (Addr × Obj)} {σ : St} {H : Hp} {s : Shared} {a C dx : Addr} {fs : List (Str × V)} {f : Str} {v : V} {A : Around} {E : Value → Shared → Prop}
end
section
variable {X : Cx} {o e value : Expr} {f : Str} {pos pos' tpos : Pos} {ta tv : TE}
end
section
variable {X : Cx} {pins : List (Addr × Obj)} {σ : St} {H : Hp} {s : Shared} {A : Around} {E : Value → Shared → Prop} {Q : Value → Shared → Prop} {c : Value} {b : Bool}
inductive TyOf (K : PySem.W.Frag) (H : Hp) : V → Value → Prop where
  | non : TyOf K H .non (.type "NoneType")
  | bl (x : Bool) : TyOf K H (.bl x) (.type "bool")
  | int (i : Int) : TyOf K H (.int i) (.type "int")
  | str (x : Str) : TyOf K H (.str x) (.type "str")
  | flt (x : UInt64) : TyOf K H (.flt x) (.type "float")
  | lst {a : Addr} {xs : List V} (e : H a = some (.lst xs)) : TyOf K H (.ref a) (.type "list")
  | frz {a : Addr} {o : Obj} {xs : List V} (e : H a = some (.frz o (.lst xs))) : TyOf K H (.ref a) (.type "list")
  | tup {a : Addr} {xs : List V} (e : H a = some (.tup xs)) : TyOf K H (.ref a) (.type "tuple")
  | dK {a : Addr} {kvs : List (Key × V)} (e : H a = some (.dK kvs)) : TyOf K H (.ref a) (.type "dict")
  | dT {a : Addr} {kvs : List (List Key × V)} (e : H a = some (.dT kvs)) : TyOf K H (.ref a) (.type "dict")
  | ins {a C dx : Addr} {fs : List (Str × V)} (e : H a = some (.ins C dx fs)) (cl : Cls K C) (ha : PySem.W.findIn K (.ref C) "__class__" = some (some (.builtin "object.__class__")))
      (hn : PySem.W.specialIn K (.builtin "object.__class__") "__get__" = some (some (.builtin "getset_descriptor.__get__"))) (htk : PySem.W.takesIn K (.builtin "object.__class__") = some true)
      (hm : PySem.W.mroIn K C (.type "object") = some true) : TyOf K H (.ref a) (.ref C)
theorem isinst_ok {x : V} {u t : Value} (I : Inv X pins σ H s) (rx : RelV x u) (ty : TyOf X.K H x t) (e : PySem.W.kitOne X.K t c = some b) (h : ∀ tk, Q (.bool b) { s with toks := tk }) :
    wpAny (model X.prog X.w) A (call (.builtin "isinstance") [u, c]) Q E s := by
  cases ty with
  | non => cases (show u = Value.none from rx); exact PySem.W.kia_one PySem.W.kitx_none I.kIn True.intro e (fun z => nomatch z) h
  | bl y => cases (show u = Value.bool y from rx); exact PySem.W.kia_one PySem.W.kitx_bool I.kIn True.intro e (fun z => nomatch z) h
  | int i => obtain ⟨t, q⟩ := (show ∃ t, u = Value.int i t from rx); cases q; exact PySem.W.kia_one PySem.W.kitx_int I.kIn True.intro e (fun z => nomatch z) h
  | str y => obtain ⟨t, q⟩ := (show ∃ t, u = Value.str y t from rx); cases q; exact PySem.W.kia_one PySem.W.kitx_str I.kIn True.intro e (fun z => nomatch z) h
  | flt y => obtain ⟨t, q⟩ := (show ∃ t, u = Value.float y t from rx); cases q; exact PySem.W.kia_one PySem.W.kitx_float I.kIn True.intro e (fun z => nomatch z) h
  | @lst a xs ea =>
    cases (show u = Value.ref a from rx)
    obtain ⟨_, _, n, _, h1⟩ := (show ObjOk X.prog X.w H s.heap a (.lst xs) from I.hok a _ ea)
    exact PySem.W.kia_one PySem.W.kitx_list I.kIn ⟨_, h1, rfl⟩ e (fun z => nomatch z) h
  | @frz a ob xs ea =>
    cases (show u = Value.ref a from rx)
    obtain ⟨_, _, _, n, _, h1⟩ := (show ObjOk X.prog X.w H s.heap a (.frz ob (.lst xs)) from I.hok a _ ea)
    exact PySem.W.kia_one PySem.W.kitx_list I.kIn ⟨_, h1, rfl⟩ e (fun z => nomatch z) h
  | @tup a xs ea =>
    cases (show u = Value.ref a from rx)
    obtain ⟨_, _, _, p⟩ := (show ObjOk X.prog X.w H s.heap a (.tup xs) from I.hok a _ ea)
    obtain ⟨o, h1, h2, _⟩ := p
    exact PySem.W.kia_one PySem.W.kitx_tuple I.kIn ⟨o, h1, h2⟩ e (fun z => nomatch z) h
  | @dK a kvs ea =>
    cases (show u = Value.ref a from rx)
    obtain ⟨_, _, vs, _, p⟩ := (show ObjOk X.prog X.w H s.heap a (.dK kvs) from I.hok a _ ea)
    obtain ⟨o, es, ep, h1, h2, _⟩ := p
    exact PySem.W.kia_one PySem.W.kitx_dict I.kIn ⟨o, h1, h2.1⟩ e (fun z => nomatch z) h
  | @dT a kvs ea =>
    cases (show u = Value.ref a from rx)
    obtain ⟨_, _, xs, _, o, es, ep, h1, h2, _⟩ := (show ObjOk X.prog X.w H s.heap a (.dT kvs) from I.hok a _ ea)
    exact PySem.W.kia_one PySem.W.kitx_dict I.kIn ⟨o, h1, h2.1⟩ e (fun z => nomatch z) h
  | @ins a C dx fs ea cl ha hn htk hm =>
    cases (show u = Value.ref a from rx)
    obtain ⟨mA, O, _⟩ := ins_get I.hok ea
    obtain ⟨od, J, _⟩ := O.look
    exact PySem.W.kia_one (PySem.W.kitx_own (cl.get _) cl.hd ha hn htk hm) I.kIn J e (fun z => nomatch z) h
end
end L2
namespace L2
open PySem PySem.Spec PyProof.Rows
structure Room (k : Nat) (A : Around) : Prop where
  hd : A.handled = none
  dp : A.depth + 3 * k + 5 < recursionLimit
  un : A.units + 16 * k + 200 < cLine
theorem Room.mono {j k : Nat} {A : Around} (r : Room k A) (h : j ≤ k) : Room j A := ⟨r.hd, by have := r.dp; omega, by have := r.un; omega⟩
theorem Room.deeper {k : Nat} {A : Around} (r : Room (k + 1) A) (env : Env) : Room k (A.deeper env) :=
  ⟨r.hd, by have := r.dp; show A.depth + 1 + 3 * k + 5 < _; omega, by have := r.un; show A.units + 3 + 16 * k + 200 < _; omega⟩
theorem Room.in1 {k : Nat} {A : Around} (r : Room (k + 1) A) : Room k A.in1 :=
  ⟨r.hd, by have := r.dp; show A.depth + 3 * k + 5 < _; omega, by have := r.un; show A.units + 1 + 16 * k + 200 < _; omega⟩
theorem Room.depth {k : Nat} {A : Around} (r : Room k A) : A.depth < recursionLimit := by have := r.dp; omega
theorem Room.units {k : Nat} {A : Around} (r : Room k A) : A.units + 64 < cLine := by have := r.un; omega
def tNil : TA := fun _ H Q => Q [] H
def tCons (ta : TE) (tr : TA) : TA := fun σ H Q => ta σ H fun x H1 => tr σ H1 fun xs H2 => Q (x :: xs) H2
section
variable {X : Cx} {e : Expr} {es : List Expr} {te : TE} {t : TA} {pos : Pos}
theorem pa_nil : PA X [] tNil := fun _ _ _ _ H Q I h => Calls.spliced_nil ⟨[], H, I, .nil, h⟩
theorem pa_cons (ha : PE X e te) (hr : PA X es t) (hs : starEach (e :: es) X.env = (false, eval e X.env) :: starEach es X.env := by rfl) : PA X (e :: es) (tCons te t) := by
  intro pos pins s σ H Q I h
  rw [hs]
  show wpAny _ _ (spliced ((false, eval e X.env) :: backTo pos (starEach es X.env))) _ _ s
  refine Calls.spliced_cons (thn (ha pins s σ H _ I h) fun u s1 ⟨x, H1, I1, r1, q1⟩ => ?_)
  exact thn (hr pos pins s1 σ H1 _ I1 q1) fun us s2 ⟨xs, H2, I2, r2, q2⟩ => ⟨x :: xs, H2, I2, .cons r1 r2, q2⟩

def tTup (t : TA) : TE := fun σ H Q => t σ H fun xs H1 => xs.length ≤ sizeLine ∧ ∀ p, H1 p = none → Q (.ref p) (upd H1 p (.tup xs))
def tLst (t : TA) : TE := fun σ H Q => t σ H fun xs H1 => xs.length ≤ sizeLine ∧ ∀ p, H1 p = none → Q (.ref p) (upd H1 p (.lst xs))
theorem pe_tup {x1} (h : PA X es t) : PE X (.Tuple es x1 pos) (tTup t) := by
  intro pins s σ H Q I hq
  refine wpAny_Tuple_spliced (thn (h pos pins s σ H _ I hq) fun us s1 ⟨xs, H1, I1, r, z, q⟩ => ⟨by rw [← r.length]; exact z, ?_⟩)
  have hf : H1 s1.heap.objs.size = none := I1.hok.fresh (Nat.le_refl _)
  refine ⟨.ref s1.heap.objs.size, upd H1 s1.heap.objs.size (.tup xs), I1.laid (t' := s1.toks) (fun b u e => Heap.get?_push_of_some _ e) (Nat.le_refl _) ?_, rfl, q _ hf⟩
  exact ⟨z, us, r, ⟨_, Heap.get?_push_size _ rfl, rfl, _, rfl⟩⟩
theorem pe_lst (h : PA X es t) : PE X (.List es pos) (tLst t) := by
  intro pins s σ H Q I hq
  refine wpAny_List_spliced (thn (h pos pins s σ H _ I hq) fun us s1 ⟨xs, H1, I1, r, z, q⟩ => ⟨by rw [← r.length]; exact z, ?_⟩)
  have hf : H1 s1.heap.objs.size = none := I1.hok.fresh (Nat.le_refl _)
  refine ⟨.ref s1.heap.objs.size, upd H1 s1.heap.objs.size (.lst xs), I1.laid (t' := s1.toks) (fun b u e => Heap.get?_push_of_some _ e) (Nat.le_refl _) ?_, rfl, q _ hf⟩
  exact ⟨z, us, 0, r, Heap.get?_push_size _ rfl⟩
end
abbrev Sp := List V → Hp → VK → XK → Prop
abbrev CXT := List Env → Hp → Shared → XK → Value → Shared → Prop

structure Env0 (P : Program) (w : World) (K : PySem.W.Frag) (mg : Str → Option Value) (base : Heap) (A : Around) (outer : List Env) (s : Shared) (H : Hp) : Prop where
  frames : A.frames = some outer
  mod : Mod K mg base
  bs : ∀ b o, base.get? b = some o → s.heap.get? b = some o ∧ H b = none
  bsz : base.objs.size ≤ s.heap.objs.size
  funs : s.heap.FunFrames base outer
  frf : ∀ b ∈ frs outer, H b = none
  hok : HOk P w H s.heap
  bare : AllBare s.gens
def CE (outer : List Env) (P : Program) (w : World) (H : Hp) (s : Shared) (Q : VK) (u : Value) (s' : Shared) : Prop :=
  ∃ v H', s'.os = s.os ∧ AllBare s'.gens ∧ Un (frs outer) [] H H' s.heap s'.heap ∧ HOk P w H' s'.heap ∧ RelV v u ∧ Q v H'
def CR (CX : CXT) (outer : List Env) (P : Program) (w : World) (H : Hp) (s : Shared) (Q : VK) (E : XK) (r : Result) (s' : Shared) : Prop :=
  match r with
  | .ok (.ret u) => CE outer P w H s Q u s'
  | .ok _ => False
  | .error e => CX outer H s E e s'
structure FnOk (P : Program) (w : World) (K : PySem.W.Frag) (mg : Str → Option Value) (base : Heap) (CX : CXT) (k : Nat) (f : Addr) (fd : FuncData) (ps : List Str) (sp : Sp) : Prop where
  len : ∀ vs H Q E, sp vs H Q E → vs.length = ps.length
  run : ∀ (A : Around) (outer : List Env) (s : Shared) (H : Hp) (args : Args) (us : List Value) (vs : List V) (Q : VK) (E : XK), Room k A → Env0 P w K mg base A outer s H → BindsTo s fd args (ps.zip us) → Vals vs us → sp vs H Q E →
    codeAny (model P w) A (.call (.ref f) args) (CR CX outer P w H s Q E) s
theorem FnOk.mono {P : Program} {w : World} {K : PySem.W.Frag} {mg : Str → Option Value} {base : Heap} {CX : CXT} {j k : Nat} {f : Addr} {fd : FuncData} {ps : List Str} {sp : Sp} (F : FnOk P w K mg base CX j f fd ps sp) (h : j ≤ k) :
    FnOk P w K mg base CX k f fd ps sp := ⟨F.len, fun A outer s H args us vs Q E hr => F.run A outer s H args us vs Q E (hr.mono h)⟩
theorem Env0.in1 {P : Program} {w : World} {K : PySem.W.Frag} {mg : Str → Option Value} {base : Heap} {A : Around} {outer : List Env} {s : Shared} {H : Hp} (e : Env0 P w K mg base A outer s H) :
    Env0 P w K mg base A.in1 outer s H := ⟨e.frames, e.mod, e.bs, e.bsz, e.funs, e.frf, e.hok, e.bare⟩

section
variable {X : Cx} {pins : List (Addr × Obj)} {σ : St} {H : Hp} {s s' : Shared}
theorem Inv.env0 (I : Inv X pins σ H s) : Env0 X.prog X.w X.K X.mg X.base X.A X.stack s H :=
  ⟨I.ok.frames, I.ok.mod, I.bs, Nat.le_trans I.ok.bsz I.sz, I.stack, I.stkFree, I.hok, I.bare⟩
theorem Inv.after {Q : VK} {u : Value} (I : Inv X pins σ H s) (h : CE X.stack X.prog X.w H s Q u s') : EP X pins σ Q u s' := by
  obtain ⟨v, H', os, bare, un, hok, r, q⟩ := h
  obtain ⟨hh, g, d, t, os'⟩ := s'
  obtain rfl : os' = s.os := os
  exact ⟨v, H', I.call (h' := hh) (g' := g) (d' := d) (t' := t) (ch := []) un hok bare (fun b z => absurd z (by simp)), r, q⟩
end
def tCall (sp : Sp) (dvs : List V) (E : XK) (t : TA) : TE := fun σ H Q => t σ H fun vs H1 => sp (vs ++ dvs) H1 Q E
def Binds (K : PySem.W.Frag) (fd : FuncData) (ps : List Str) (ds : List Value) : Prop :=
  ∀ (s : Shared) (us : List Value), K.In s.heap → (us ++ ds).length = ps.length → BindsTo s fd ⟨us, []⟩ (ps.zip (us ++ ds))
theorem Binds.all {K : PySem.W.Frag} {fd : FuncData} {ps : List Str} (h : ∀ us : List Value, us.length = ps.length → bindArgs fd ⟨us, []⟩ = pure (ps.zip us)) : Binds K fd ps [] := fun s us _ hl => by
  rw [List.append_nil] at hl ⊢
  exact .of_eq (h us hl)

def Passes (CX : CXT) (X : Cx) (E : XK) : Prop := ∀ (pins : List (Addr × Obj)) (σ : St) (H : Hp) (s : Shared) (e : Value) (s' : Shared), Inv X pins σ H s → CX X.stack H s E e s' → X.xe e s'

section
variable {X : Cx} {CX : CXT} {k : Nat} {f C : Addr} {fd : FuncData} {ps : List Str} {sp : Sp} {dvs : List V} {ds : List Value} {E : XK} {x m : Str} {p pos apos : Pos} {e o : Expr} {es : List Expr} {ta : TE} {t : TA}
theorem run_fn {pins : List (Addr × Obj)} {σ : St} {H : Hp} {s : Shared} {Q : VK} {us : List Value} {vs : List V} (F : FnOk X.prog X.w X.K X.mg X.base CX k f fd ps sp) (hr : Room k X.A) (hb : Binds X.K fd ps ds) (hd : Vals dvs ds) (hx : Passes CX X E)
    (I : Inv X pins σ H s) (r : Vals vs us) (h : sp (vs ++ dvs) H Q E) : wpAny (model X.prog X.w) X.A (call (.ref f) us) (EP X pins σ Q) X.xe s := by
  have r2 : Vals (vs ++ dvs) (us ++ ds) := r.append hd
  have hl : (us ++ ds).length = ps.length := by rw [← r2.length]; exact F.len _ _ _ _ h
  refine wpAny_call (codeAny_mono (F.run X.A X.stack s H ⟨us, []⟩ (us ++ ds) (vs ++ dvs) Q E hr I.env0 (hb s us I.kIn hl) r2 h) fun r s' hq => ?_)
  cases r with
  | error e => exact hx pins σ H s e s' I hq
  | ok fl =>
    cases fl with
    | ret u => exact I.after hq
    | next => exact False.elim hq
    | brk => exact False.elim hq
    | cont => exact False.elim hq

theorem pe_call (F : FnOk X.prog X.w X.K X.mg X.base CX k f fd ps sp) (hr : Room k X.A) (hg : Gl X x) (hm : X.mg x = some (.ref f)) (hk : PySem.W.keepIn X.K (.ref f) = true) (hb : Binds X.K fd ps ds) (hd : Vals dvs ds) (hx : Passes CX X E)
    (ha : PA X (e :: es) t) (hdb : (x == ("__debug__" : Str)) = false := by decide) (he : starEach (e :: es) X.env = (false, eval e X.env) :: starEach es X.env := by rfl) (hpl : (backTo pos (starEach es X.env)).any (·.1) = false := by rfl) :
    PE X (.Call (.Name x p) (e :: es) [] pos) (tCall sp dvs E t) := by
  intro pins s σ H Q I h
  refine wpAny_Call_Name_kw (ld_glob I hg hm ?_ hdb)
  refine PySem.W.callWith_K (h₀ := X.base) I.ok.mod.kin hk (thn (ha pos pins s σ H _ I h) fun us s1 ⟨vs, H1, I1, r, q⟩ => ⟨I1.kIn, ?_⟩) he hpl
  exact run_fn F hr hb hd hx I1 r q
end
section
variable {X : Cx} {CX : CXT} {k : Nat} {f C : Addr} {fd : FuncData} {ps ks : List Str} {sp : Sp} {E : XK} {x m : Str} {p pos apos kpos : Pos} {e o : Expr} {es : List Expr} {kws : List Keyword} {te ta : TE} {t tk : TA} {nm : Option Str}
variable {g : List Value → List Value → List Value} {gV : List V → List V → List V}
end
structure FnScope (N P : List Str) (sc : Scope) : Prop where
  kind : sc.kind = .function
  co : sc.isCoroutine = false
  gen : sc.isGenerator = false
  nd : N.Nodup
  pre : N.take P.length = P
  par : ∀ x ∈ P, sc.names.lookup x = some .local ∨ sc.names.lookup x = some .cell
  nofree : ∀ y ∈ sc.names, y.2 ≠ .free

theorem bindL_out {kindOf : Str → Option NameKind} {x : Str} : ∀ {binds : List (Str × Value)} {m : Str → Option Value}, (∀ v, (x, v) ∉ binds) → bindL kindOf binds m x = m x
  | [], _, _ => rfl
  | (n, v) :: r, m, h => by
    unfold bindL
    rw [bindL_out fun w hw => h w (List.mem_cons_of_mem _ hw)]
    split
    · have : x ≠ n := by rintro rfl; exact h v List.mem_cons_self
      simp [this]
    · rfl
theorem bindC_out {kindOf : Str → Option NameKind} {x : Str} : ∀ {binds : List (Str × Value)} {m : Str → Option Value}, (∀ v, (x, v) ∉ binds) → bindC kindOf binds m x = m x
  | [], _, _ => rfl
  | (n, v) :: r, m, h => by
    unfold bindC
    rw [bindC_out fun w hw => h w (List.mem_cons_of_mem _ hw)]
    split
    · rfl
    · have : x ≠ n := by rintro rfl; exact h v List.mem_cons_self
      simp [this]
theorem bindL_get {kindOf : Str → Option NameKind} {x : Str} {v : Value} : ∀ {P : List Str} {vs : List Value} {i : Nat} {m : Str → Option Value}, P.Nodup → P[i]? = some x → vs[i]? = some v → kindOf x = some .local →
    bindL kindOf (P.zip vs) m x = some v
  | [], _, _, _, _, h, _, _ => by simp at h
  | _ :: _, [], _, _, _, _, h, _ => by simp at h
  | p :: P, w :: vs, 0, m, nd, h1, h2, hk => by
    simp at h1 h2; subst h1; subst h2
    show bindL kindOf ((p, w) :: P.zip vs) m p = _
    unfold bindL
    rw [bindL_out fun v hv => (List.nodup_cons.mp nd).1 (List.of_mem_zip hv).1, if_pos hk]
    simp
  | p :: P, w :: vs, i + 1, m, nd, h1, h2, hk => by
    show bindL kindOf ((p, w) :: P.zip vs) m x = _
    unfold bindL
    exact bindL_get (i := i) (List.nodup_cons.mp nd).2 (by simpa using h1) (by simpa using h2) hk
theorem bindC_get {kindOf : Str → Option NameKind} {x : Str} {v : Value} : ∀ {P : List Str} {vs : List Value} {i : Nat} {m : Str → Option Value}, P.Nodup → P[i]? = some x → vs[i]? = some v → kindOf x ≠ some .local →
    bindC kindOf (P.zip vs) m x = some v
  | [], _, _, _, _, h, _, _ => by simp at h
  | _ :: _, [], _, _, _, _, h, _ => by simp at h
  | p :: P, w :: vs, 0, m, nd, h1, h2, hk => by
    simp at h1 h2; subst h1; subst h2
    show bindC kindOf ((p, w) :: P.zip vs) m p = _
    unfold bindC
    rw [bindC_out fun v hv => (List.nodup_cons.mp nd).1 (List.of_mem_zip hv).1, if_neg hk]
    simp
  | p :: P, w :: vs, i + 1, m, nd, h1, h2, hk => by
    show bindC kindOf ((p, w) :: P.zip vs) m x = _
    unfold bindC
    exact bindC_get (i := i) (List.nodup_cons.mp nd).2 (by simpa using h1) (by simpa using h2) hk

def start (N : List Str) (vs : List V) : St := vs.map some ++ List.replicate (N.length - vs.length) none

def cxOf (CX : CXT) (P : Program) (w : World) (K : PySem.W.Frag) (mg : Str → Option Value) (base : Heap) (N : List Str) (qual : Str) (scope : Scope) (f : Addr) (cd : Value) (A : Around) (outer : List Env) (s : Shared) (H : Hp) (E : XK) : Cx where
  prog := P
  w := w
  K := K
  mg := mg
  base := base
  A := A.deeper (envOfC qual scope s.heap.objs.size f cd)
  N := N
  s₀ := s
  H₀ := H
  env := envOfC qual scope s.heap.objs.size f cd
  outer := outer
  stack := envOfC qual scope s.heap.objs.size f cd :: outer
  ex := []
  calm := true
  fn := fun _ => true
  pn := []
  xe := fun e s' => wpAny (model P w) (A.deeper (envOfC qual scope s.heap.objs.size f cd)) (leaving (envOfC qual scope s.heap.objs.size f cd) e) (fun _ s'' => CX outer H s E e s'') (fun e' s'' => CX outer H s E e' s'') s'

theorem cell_has {sc : Scope} {n : Nat} {x : Str} (h : sc.names.lookup x = some .cell) : ∃ c, (cellsFrom n sc.names []).lookup x = some c := by
  have q := PySem.W.cellsFrom_some sc.names n [] (.inl h)
  exact Option.isSome_iff_exists.mp q

theorem inv_start {CX : CXT} {P : Program} {w : World} {K : PySem.W.Frag} {mg : Str → Option Value} {base : Heap} {N ps : List Str} {qual : Str} {scope : Scope} {f : Addr} {cd : Value} {A : Around} {outer : List Env} {s s1 : Shared} {H : Hp} {E : XK} {us : List Value} {vs : List V}
    (S : FnScope N ps scope) (hd : A.handled = none) (e0 : Env0 P w K mg base A outer s H) (hl : vs.length = ps.length) (r : Vals vs us)
    (x : InCallC s s.heap.objs.size (bindL (envOfC qual scope s.heap.objs.size f cd).kindOf (ps.zip us) fun _ => none) (cellsFrom (s.heap.objs.size + 1) scope.names []) (bindC (envOfC qual scope s.heap.objs.size f cd).kindOf (ps.zip us) fun _ => none) s1) :
    Inv (cxOf CX P w K mg base N qual scope f cd A outer s H E) [] (start N vs) H s1 := by
  have hpl : ps.length ≤ N.length := by have := congrArg List.length S.pre; rw [List.length_take] at this; omega
  obtain ⟨h1, tk, rfl, hk⟩ := x.done
  have noA : ∀ b : Addr, b ∉ (cxOf CX P w K mg base N qual scope f cd A outer s H E).ex := fun b z => absurd (show b ∈ ([] : List Addr) from z) (by simp)
  refine ⟨⟨e0.mod, S.kind, rfl, rfl, Nat.le_refl _, fun y z c h1 h2 => ?_, fun y hy => ?_, fun y c _ h => ?_, fun _ => hd, Around.frames_deeper e0.frames, .inr ⟨rfl, rfl⟩, fun b z => absurd z (noA b), e0.bs, e0.bsz, fun b _ _ => noA b, fun b z => absurd z (noA b), e0.funs, e0.frf⟩,
    rfl, e0.bare, Un.kept hk, ⟨_, x.toInCall.ns, fun i y v h1 h2 h3 => ?_⟩, fun y c h => ⟨_, x.cell y c h⟩, e0.hok.fresh (Nat.le_refl _), fun y c h => ?_, fun p hp => absurd (show p ∈ ([] : List (Addr × Obj)) from hp) (by simp), e0.hok.kept hk, ?_⟩
  · exact name_of_addr x.apart (PySem.mem_of_lookup h1) (PySem.mem_of_lookup h2)
  · have hy : scope.names.lookup y = some .cell ∨ scope.names.lookup y = some .free := hy
    rcases hy with hy | hy
    · exact cell_has hy
    · exact absurd rfl (S.nofree _ (PySem.mem_of_lookup hy))
  · exact Nat.le_of_lt (x.above y c (PySem.mem_of_lookup h))
  · have hi : i < vs.length := by
      unfold start at h2
      by_cases hi : i < vs.length
      · exact hi
      · rw [List.getElem?_append_right (by simpa using hi)] at h2
        rw [List.getElem?_replicate] at h2
        split at h2 <;> cases h2
    have ha : vs[i]? = some v := by
      unfold start at h2
      rw [List.getElem?_append_left (by simpa using hi), List.getElem?_map] at h2
      cases e : vs[i]? with
      | none => rw [e] at h2; cases h2
      | some a => rw [e] at h2; cases h2; rfl
    obtain ⟨u, hu, rv⟩ := r.get ha
    have hp : ps[i]? = some y := by
      rw [← S.pre, List.getElem?_take_of_lt (by omega)]; exact h1
    have ndP : ps.Nodup := by rw [← S.pre]; exact S.nd.sublist (List.take_sublist _ _)
    refine ⟨u, rv, ?_⟩
    rcases S.par y (List.mem_of_getElem? hp) with k | k
    · exact .inl ⟨k, bindL_get ndP hp hu k⟩
    · obtain ⟨c, e⟩ := cell_has (n := s.heap.objs.size + 1) k
      refine .inr ⟨.inl k, c, e, ?_⟩
      have q := x.cell y c e
      rw [bindC_get ndP hp hu (by show scope.names.lookup y ≠ _; rw [k]; decide)] at q
      exact q
  · exact e0.hok.fresh (Nat.le_of_lt (x.above y c (PySem.mem_of_lookup h)))
  · unfold start
    show _ = N.length
    rw [List.length_append, List.length_map, List.length_replicate]
    omega

theorem fn_of {CX : CXT} {P : Program} {w : World} {K : PySem.W.Frag} {mg : Str → Option Value} {base : Heap} {k : Nat} {f : Addr} {name qual : Str} {params : Arguments} {body : List Stmt} {scope : Scope} {dV kV doc pm cdv ct oc : Value} {an od : Option Addr}
    {osl : Array (Option Value)} {N ps : List Str} {sp : Sp} (lk : K.lookup f = some ⟨oc, od, .func (PySem.W.fnOf name qual params body scope dV kV doc pm an cdv ct), osl⟩) (hcd : PySem.W.codeIn K cdv qual = true) (S : FnScope N ps scope)
    (len : ∀ vs H Q E, sp vs H Q E → vs.length = ps.length)
    (hbody : ∀ (A : Around) (outer : List Env) (s : Shared) (H : Hp) (vs : List V) (Q : VK) (E : XK), Room k (A.deeper (envOfC qual scope s.heap.objs.size f cdv)) → sp vs H Q E →
      ∃ t, PSs (cxOf CX P w K mg base N qual scope f cdv A outer s H E) body t ∧ t { nx := fun _ H' => Q .non H', rt := Q } (start N vs) H) :
    FnOk P w K mg base CX (k + 1) f (PySem.W.fnOf name qual params body scope dV kV doc pm an cdv ct) ps sp := by
  refine ⟨len, fun A outer s H args us vs Q E hr e0 hb r hsp => ?_⟩
  have hl := len _ _ _ _ hsp
  have KX : K.In s.heap := e0.mod.kin.keeps fun b o e => (e0.bs b o e).1
  have lim : s.heap.NoLimit := e0.mod.nolimit.keeps fun b o e => (e0.bs b o e).1
  have hkind : ∀ y ∈ ps.zip us, scope.names.lookup y.1 = some .local ∨ (scope.names.lookup y.1 = some .cell ∧ ((cellsFrom (s.heap.objs.size + 1) scope.names []).lookup y.1).isSome = true) := fun ⟨n, v⟩ hy => by
    rcases S.par n (List.of_mem_zip hy).1 with q | q
    · exact .inl q
    · exact .inr ⟨q, PySem.W.cellsFrom_some _ _ _ (.inl q)⟩
  refine codeAny_call_function hr.depth (KX _ _ lk) rfl S.co S.gen rfl (PySem.W.codeRec_of KX hcd) (hb _ _ _ _ ?_)
  refine wpAny_newFunctionEnv_cells S.kind hkind fun env he s1 x => ?_
  subst he
  refine ⟨lim.keeps x.toInCall.keep, codeAny_func ?_⟩
  obtain ⟨t, ht, hq⟩ := hbody A outer s H vs Q E (hr.deeper _) hsp
  have I : Inv (cxOf CX P w K mg base N qual scope f cdv A outer s H E) [] (start N vs) H s1 := inv_start S hr.hd e0 hl r x
  refine wpAny_mono (ht [] s1 (start N vs) H _ I hq) (fun fl s' hs => ?_) fun e s' hs => hs
  have fin : ∀ {σ' : St} {H' : Hp} {v : V} {u : Value}, Inv (cxOf CX P w K mg base N qual scope f cdv A outer s H E) [] σ' H' s' → RelV v u → Q v H' → CE outer P w H s Q u s' :=
    fun {σ' H' v u} J rv q => ⟨v, H', J.os, J.bare, J.base, J.hok, rv, q⟩
  cases fl with
  | ret u =>
    obtain ⟨v, σ', H', J, rv, q⟩ := hs
    exact fin J rv q
  | next =>
    obtain ⟨σ', H', J, q⟩ := hs
    exact fin (v := V.non) (u := Value.none) J rfl q
  | brk =>
    obtain ⟨_, _, _, q⟩ := hs
    exact False.elim q
  | cont =>
    obtain ⟨_, _, _, q⟩ := hs
    exact False.elim q
end L2
namespace L2
open PySem PySem.Spec PyProof.Rows
section
variable {X : Cx} {x : Str} {p pos : Pos} {e : Expr} {es : List Expr} {t : TA} {id T : String} {r : List V → Hp → VK → Prop}
def tCB (r : List V → Hp → VK → Prop) (t : TA) : TE := fun σ H Q => t σ H fun vs H1 => r vs H1 Q
theorem pe_callB (hc : CallR X (.builtin id) r) (hg : Gl X x) (hm : X.mg x = none) (hv : bootBuiltins x = some (.builtin id)) (ha : PA X (e :: es) t) (hn : x ≠ "__name__" := by decide) (hdb : (x == ("__debug__" : Str)) = false := by decide)
    (he : starEach (e :: es) X.env = (false, eval e X.env) :: starEach es X.env := by rfl) (hpl : (backTo pos (starEach es X.env)).any (·.1) = false := by rfl) : PE X (.Call (.Name x p) (e :: es) [] pos) (tCB r t) := by
  intro pins s σ H Q I h
  refine wpAny_Call_Name_kw (ld_blt I hg hm hv ?_ hn hdb)
  exact PyProof.Rows.callWith_builtin1 (thn (ha pos pins s σ H _ I h) fun us s1 ⟨vs, H1, I1, r1, q1⟩ => hc pins s1 σ H1 vs us Q I1 r1 q1) he hpl
end
end L2
namespace HT
open PySem PyProof.Rows
section
open PySem.SeqAt
open PySem.AutoSeq1 (wpAny_loadPart')
open PySem.MeetsSeq PySem.MeetsSeq2 PySem.MeetsSeq3
end
section
variable {prog : Program} {w : World} {A : Around} {E : Value → Shared → Prop} {s : Shared}
def sIx (n d : Nat) : Option Int → Nat
  | none => d
  | some v => if v < 0 then (v + (n : Int)).toNat else min v.toNat n
theorem sIx_none (n d : Nat) : sIx n d none = d := rfl
theorem sIx_nat (n d k : Nat) : sIx n d (some (k : Int)) = min k n := by
  show (if (k : Int) < 0 then ((k : Int) + (n : Int)).toNat else min (k : Int).toNat n) = min k n
  rw [if_neg (by omega), Int.toNat_natCast]
end
end HT
namespace L2
open PySem PySem.Spec PyProof.Rows
abbrev TO := St → Hp → (Option Int → Hp → Prop) → Prop
def PO (X : Cx) (e : Option Expr) (t : TO) : Prop :=
  ∀ (pins : List (Addr × Obj)) (s : Shared) (σ : St) (H : Hp) (Q : Option Int → Hp → Prop), Inv X pins σ H s → t σ H Q →
    wpAny (model X.prog X.w) X.A (evalPart e X.env) (fun u s' => ∃ o H', Inv X pins σ H' s' ∧ IsPart u o ∧ Q o H') X.xe s
def tNoPart : TO := fun _ H Q => Q none H
def tPart (t : TE) : TO := fun σ H Q => t σ H fun x H1 => ∃ i, x = .int i ∧ Q (some i) H1

section
variable {X : Cx} {e : Expr} {te : TE} {lo hi : Option Expr} {tl th : TO} {pos p2 : Pos}
theorem po_none : PO X none tNoPart := by
  intro pins s σ H Q I h
  rw [evalPart_none]
  exact wpAny_pure ⟨none, H, I, .none, h⟩
theorem po_some (h : PE X e te) : PO X (some e) (tPart te) := by
  intro pins s σ H Q I hw
  rw [evalPart_some]
  refine thn (h pins s σ H _ I hw) fun u s1 ⟨x, H1, I1, r1, q1⟩ => ?_
  obtain ⟨i, rfl, q⟩ := q1
  obtain ⟨t, rfl⟩ := r1
  exact ⟨some i, H1, I1, .int i t, q⟩

def SlR (X : Cx) (r : V → Option Int → Option Int → Hp → VK → Prop) : Prop :=
  ∀ (pins : List (Addr × Obj)) (s : Shared) (σ : St) (H : Hp) (x : V) (v vl vu : Value) (lo hi : Option Int) (sl : Addr) (Q : VK), Inv X pins σ H s → RelV x v → s.heap.IsSliceOf sl vl vu .none → IsPart vl lo → IsPart vu hi → r x lo hi H Q →
    ∃ T id, typeLookup (.type T) "__getitem__" = pure (some (.builtin id)) ∧ s.TypeIs v T ∧ wpAny (model X.prog X.w) X.A (getItem v (.ref sl)) (EP X pins σ Q) X.xe s
def tSl (r : V → Option Int → Option Int → Hp → VK → Prop) (te : TE) (tl th : TO) : TE := fun σ H Q => te σ H fun x H1 => tl σ H1 fun l H2 => th σ H2 fun u H3 => r x l u H3 Q
theorem pe_slice {r : V → Option Int → Option Int → Hp → VK → Prop} (hr : SlR X r) (he : PE X e te) (hl : PO X lo tl) (hu : PO X hi th) : PE X (.Subscript e (.Slice lo hi none p2) pos) (tSl r te tl th) := by
  intro pins s σ H Q I h
  refine Subscript_ (thn (he pins s σ H _ I h) fun v s1 ⟨x, H1, I1, r1, q1⟩ => ?_)
  refine wpAny_Slice (thn (hl pins s1 σ H1 _ I1 q1) fun vl s2 ⟨l, H2, I2, pl, q2⟩ => thn (hu pins s2 σ H2 _ I2 q2) fun vu s3 ⟨u, H3, I3, pu, q3⟩ => ?_)
  rw [evalPart_none]
  refine wpAny_pure ?_
  have I4 : Inv X pins σ H3 { s3 with heap := s3.heap.push { cls := .type "slice", data := .fields #[vl, vu, .none] } } := I3.kept (t' := s3.toks) fun b ob q => Heap.get?_push_of_some _ q
  obtain ⟨T, id, hT, ht, hg⟩ := hr pins { s3 with heap := s3.heap.push { cls := .type "slice", data := .fields #[vl, vu, .none] } } σ H3 x v vl vu l u s3.heap.objs.size Q I4 r1 (Heap.IsSliceOf.new ..) pl pu q3
  show wpAny (model X.prog X.w) X.A (subscriptTail e (.Slice lo hi none p2) v (.ref s3.heap.objs.size)) (EP X pins σ Q) X.xe { s3 with heap := s3.heap.push { cls := .type "slice", data := .fields #[vl, vu, .none] } }
  exact tail_any (ops := [.ref s3.heap.objs.size, v]) ht hT hg (by with_unfolding_all rfl)

def cutV (xs : List V) (lo hi : Option Int) : List V := (xs.drop (HT.sIx xs.length 0 lo)).take (HT.sIx xs.length xs.length hi - HT.sIx xs.length 0 lo)
theorem cutV_length (xs : List V) (lo hi : Option Int) : (cutV xs lo hi).length ≤ xs.length := by
  unfold cutV
  rw [List.length_take, List.length_drop]
  omega
end
end L2
namespace L2
open PySem PySem.Spec PyProof.Rows
def ixN (n : Nat) (i : Int) : Option Nat := if 0 ≤ i then (if i < n then some i.toNat else none) else if -(n : Int) ≤ i then some (i + n).toNat else none
def atI {α : Type} (xs : List α) (i : Int) : Option α := (ixN xs.length i).bind fun j => xs[j]?
theorem ixN_seq {n : Nat} {i : Int} {j : Nat} (h : ixN n i = some j) : seqIndex? i n = some j ∧ j < n ∧ -(n : Int) ≤ i ∧ i < n := by
  unfold ixN at h
  by_cases h0 : 0 ≤ i
  · rw [if_pos h0] at h
    by_cases h1 : i < n
    · rw [if_pos h1] at h
      have e : i.toNat = j := Option.some.inj h
      exact ⟨by rw [seqIndex_of h0 h1, e], by omega, by omega, h1⟩
    · rw [if_neg h1] at h; cases h
  · rw [if_neg h0] at h
    by_cases h1 : -(n : Int) ≤ i
    · rw [if_pos h1] at h
      have e : (i + n).toNat = j := Option.some.inj h
      exact ⟨by rw [seqIndex_neg (by omega) h1, e], by omega, h1, by omega⟩
    · rw [if_neg h1] at h; cases h
theorem atI_get {α : Type} {xs : List α} {i : Int} {v : α} (h : atI xs i = some v) : ∃ j, seqIndex? i xs.length = some j ∧ xs[j]? = some v ∧ j < xs.length ∧ -(xs.length : Int) ≤ i ∧ i < xs.length := by
  unfold atI at h
  cases e : ixN xs.length i with
  | none => rw [e] at h; cases h
  | some j =>
    rw [e] at h
    obtain ⟨h1, h2, h3, h4⟩ := ixN_seq e
    exact ⟨j, h1, h, h2, h3, h4⟩
theorem atI_nat {α : Type} {xs : List α} {j : Nat} {v : α} (h : xs[j]? = some v) : atI xs (j : Int) = some v := by
  have hj : j < xs.length := (List.getElem?_eq_some_iff.mp h).1
  have e : ixN xs.length (j : Int) = some j := by
    unfold ixN
    rw [if_pos (by omega), if_pos (by omega)]; simp
  unfold atI; rw [e]; exact h
def PlainIx (b : Expr) : Prop := ∀ o i, subscripted b false o i = operate [o, i] (getItem o i)
def IxR (X : Cx) (r : R2) : Prop :=
  ∀ (value slice : Expr) (pins : List (Addr × Obj)) (s : Shared) (σ : St) (H : Hp) (x y : V) (v u : Value) (Q : VK), Inv X pins σ H s → RelV x v → RelV y u → r x y H Q →
    subscripted slice false v u = operate [v, u] (getItem v u) → wpAny (model X.prog X.w) X.A (subscriptTail value slice v u) (EP X pins σ Q) X.xe s
def MtR (X : Cx) (id : String) (r : V → List V → Hp → VK → Prop) : Prop :=
  ∀ (pins : List (Addr × Obj)) (s : Shared) (σ : St) (H : Hp) (x : V) (xs : List V) (v : Value) (us : List Value) (Q : VK), Inv X pins σ H s → RelV x v → Vals xs us → r x xs H Q →
    wpAny (model X.prog X.w) X.A (call (.builtin id) (v :: us)) (EP X pins σ Q) X.xe s
section
variable {X : Cx} {a b : Expr} {ta tb : TE} {pos : Pos}
theorem pe_ix {r : R2} (hr : IxR X r) (ha : PE X a ta) (hb : PE X b tb) (hs : PlainIx b) : PE X (.Subscript a b pos) (tOp r ta tb) := by
  intro pins s σ H Q I h
  exact Subscript_ (binT ha hb I h fun v u s2 x y H2 I2 rx ry q => hr a b pins s2 σ H2 x y v u Q I2 rx ry q (hs _ _))

def rIxL (K : PySem.W.Frag) : R2 := fun x y H Q => ∃ p xs i v, x = .ref p ∧ y = .int i ∧ SqL K H p xs ∧ atI xs i = some v ∧ Q v H
def rIxT (K : PySem.W.Frag) : R2 := fun x y H Q => ∃ p xs i v, x = .ref p ∧ y = .int i ∧ SqT K H p xs ∧ atI xs i = some v ∧ Q v H
theorem ix_list : IxR X (rIxL X.K) := by
  intro value slice pins s σ H x y v u Q I rx ry h hs
  obtain ⟨p, xs, i, z, rfl, rfl, hq, he, q⟩ := h
  cases rx
  obtain ⟨t, rfl⟩ := ry
  obtain ⟨its, r, pl, hz⟩ := I.list hq
  obtain ⟨j, h1, h2, h3, h4, h5⟩ := atI_get he
  obtain ⟨w, ew, rw'⟩ := r.get h2
  have hl := r.length
  have hn := line63
  have fin : EP X pins σ Q w s := ⟨z, H, I, rw', q⟩
  by_cases h0 : 0 ≤ i
  · have hj : i.toNat = j := by
      rw [seqIndex_of h0 h5] at h1
      exact Option.some.inj h1
    exact item_listR pl.isList h0 (by omega) (by rw [hj]; simpa using ew) fin hs
  · have hj : (i + (its.toArray.size : Int)).toNat = j := by
      rw [seqIndex_neg (by omega) h4] at h1
      rw [List.size_toArray, ← hl]
      exact Option.some.inj h1
    exact subscriptTail_builtinR (x := w) pl.isList.typeIs slot_list_getitem.lookup
      (wpAny_getItem_list_neg (Q := fun r s' => r = w ∧ EP X pins σ Q r s') pl.isList (by omega) (by rw [List.size_toArray] <;> omega) (by omega) (by rw [hj]; simpa using ew) ⟨rfl, fin⟩) hs
theorem ix_tup : IxR X (rIxT X.K) := by
  intro value slice pins s σ H x y v u Q I rx ry h hs
  obtain ⟨p, xs, i, z, rfl, rfl, hq, he, q⟩ := h
  cases rx
  obtain ⟨t, rfl⟩ := ry
  obtain ⟨its, r, pl, hz⟩ := I.tuple hq
  obtain ⟨j, h1, h2, h3, h4, h5⟩ := atI_get he
  obtain ⟨w, ew, rw'⟩ := r.get h2
  have hl := r.length
  have hn := line63
  have fin : EP X pins σ Q w s := ⟨z, H, I, rw', q⟩
  exact subscriptTail_builtinR (x := w) pl.typeIs slot_tuple_getitem.lookup
    (getItem_tuple (j := j) (Q := fun r s' => r = w ∧ EP X pins σ Q r s') pl (by omega) (by omega) (by rw [List.size_toArray, ← hl]; exact h1) (by simpa using ew) ⟨rfl, fin⟩) hs
theorem mapSeq_set (its : List Value) (n j : Nat) (u : Value) : Obj.mapSeq (·.setIfInBounds j u) { cls := .type "list", data := .seq its.toArray n } = { cls := .type "list", data := .seq (its.set j u).toArray n } := by
  simp [Obj.mapSeq]
theorem Inv.lst {pins : List (Addr × Obj)} {σ : St} {H : Hp} {s : Shared} {p : Addr} {xs : List V} (I : Inv X pins σ H s) (h : H p = some (.lst xs)) :
    ∃ (its : List Value) (n : Nat), Vals xs its ∧ s.heap.get? p = some { cls := .type "list", data := .seq its.toArray n } ∧ xs.length ≤ sizeLine := by
  obtain ⟨z, its, n, r, e⟩ := I.hok p _ h
  exact ⟨its, n, r, e, z⟩
theorem Inv.lstUpd {pins : List (Addr × Obj)} {σ : St} {H : Hp} {s : Shared} {p : Addr} {xs ys : List V} {its its' : List Value} {n n' : Nat} {f : Obj → Obj} (I : Inv X pins σ H s) (h : H p = some (.lst xs))
    (ho : s.heap.get? p = some { cls := .type "list", data := .seq its.toArray n }) (hf : f { cls := .type "list", data := .seq its.toArray n } = { cls := .type "list", data := .seq its'.toArray n' }) (r : Vals ys its') (hz : ys.length ≤ sizeLine) (t : Nat) :
    Inv X pins σ (upd H p (.lst ys)) { s with heap := s.heap.update p f, toks := t } := by
  have e : (s.heap.update p f).get? p = some { cls := .type "list", data := .seq its'.toArray n' } := by
    rw [Heap.get?_update_self f ho (by rw [hf] <;> rfl), hf]
  refine I.write (x := p) (e := p) (by rw [h]; trivial) (.inl rfl) (fun b u hb q => (Heap.get?_update_other _ _ (Ne.symm hb)).trans q) ⟨_, e⟩ ?_
  exact ⟨hz, its', n', r, e⟩
def rSetL : V → V → V → Hp → (Hp → Prop) → Prop := fun o i v H Q => ∃ p xs k j, o = .ref p ∧ i = .int k ∧ H p = some (.lst xs) ∧ ixN xs.length k = some j ∧ Q (upd H p (.lst (xs.set j v)))
theorem set_list : PSet X rSetL := by
  intro pins s σ H o i v ov iv u Q I ro ri rv h
  obtain ⟨p, xs, k, j, rfl, rfl, hp, hj, q⟩ := h
  cases ro
  obtain ⟨t, rfl⟩ := ri
  obtain ⟨its, n, r, ho, hz⟩ := I.lst hp
  obtain ⟨h1, h2, h3, h4⟩ := ixN_seq hj
  have hl := r.length
  have hn := line63
  have I' : Inv X pins σ (upd H p (.lst (xs.set j v))) { s with heap := s.heap.update p (Obj.mapSeq (·.setIfInBounds j u)) } :=
    I.lstUpd hp ho (mapSeq_set its n j u) (r.set rv j) (by rw [List.length_set]; exact hz) s.toks
  by_cases h0 : 0 ≤ k
  · have hk : k.toNat = j := by
      rw [seqIndex_of h0 h4] at h1
      exact Option.some.inj h1
    exact PySem.W.ki_setAt ho h0 (by omega) (by rw [List.size_toArray, ← hl]; exact h4) (by rw [hk]; exact ⟨_, I', q⟩)
  · have hk : (k + (its.toArray.size : Int)).toNat = j := by
      rw [seqIndex_neg (by omega) h3] at h1
      rw [List.size_toArray, ← hl]
      exact Option.some.inj h1
    exact PySem.W.ki_setBack ho (by omega) (by rw [List.size_toArray, ← hl]; exact h3) (by omega) (by rw [hk]; exact ⟨_, I', q⟩)

theorem slice_bounds (lo hi : Option Int) (n : Nat) : (sliceBounds lo hi none n).1 = ((HT.sIx n 0 lo : Nat) : Int) ∧ (sliceBounds lo hi none n).2.1 = ((HT.sIx n n hi : Nat) : Int) ∧ (sliceBounds lo hi none n).2.2 = 1 := by
  refine ⟨?_, ?_, rfl⟩
  · cases lo with
    | none => simp [sliceBounds, HT.sIx]
    | some i =>
      simp only [sliceBounds, HT.sIx, Option.getD_none, show (1 : Int) > 0 by decide, if_true]
      by_cases h : i < 0
      · simp only [h, if_true] <;> omega
      · simp only [h, if_false] <;> omega
  · cases hi with
    | none => simp [sliceBounds, HT.sIx]
    | some i =>
      simp only [sliceBounds, HT.sIx, Option.getD_none, show (1 : Int) > 0 by decide, if_true]
      by_cases h : i < 0
      · simp only [h, if_true] <;> omega
      · simp only [h, if_false] <;> omega
theorem slicePick_cut (its : List Value) (lo hi : Option Int) : slicePick its.toArray lo hi none = ((its.drop (HT.sIx its.length 0 lo)).take (HT.sIx its.length its.length hi - HT.sIx its.length 0 lo)).toArray := by
  obtain ⟨h1, h2, h3⟩ := slice_bounds lo hi its.toArray.size
  unfold slicePick
  rw [h1, h2, h3]
  simp only [sliceRange_one, pick_run, List.size_toArray] <;> rfl
def rSlL (K : PySem.W.Frag) : V → Option Int → Option Int → Hp → VK → Prop := fun x lo hi H Q => ∃ a xs, x = .ref a ∧ SqL K H a xs ∧ ∀ p, H p = none → Q (.ref p) (upd H p (.lst (cutV xs lo hi)))
theorem sl_list : SlR X (rSlL X.K) := by
  intro pins s σ H x v vl vu lo hi sl Q I rx hs pl pu h
  obtain ⟨a, xs, rfl, hx, q⟩ := h
  cases rx
  obtain ⟨its, r, ht, hz⟩ := I.list hx
  have hlen := r.length
  refine ⟨"list", _, slot_list_getitem.lookup, ht.isList.typeIs, ?_⟩
  refine wpAny_getItem_list_slice ht.isList hs pl pu .none (by simp) ?_ (by rw [List.size_toArray] <;> omega)
  rw [slicePick_cut, ← hlen]
  refine ⟨.ref s.heap.objs.size, _, I.laid (t' := s.toks) (o := .lst (cutV xs lo hi)) (fun b ob q => Heap.get?_push_of_some _ q) (Nat.le_refl _) ?_, rfl, q _ (I.hok.fresh (Nat.le_refl _))⟩
  exact ⟨Nat.le_trans (cutV_length xs lo hi) hz, _, 0, (r.drop (HT.sIx xs.length 0 lo)).take (HT.sIx xs.length xs.length hi - HT.sIx xs.length 0 lo), Heap.get?_push_size _ rfl⟩

def flatV : V → Bool
  | .non => true
  | .bl _ => true
  | .int _ => true
  | .str _ => true
  | _ => false
def eqV : V → V → Bool
  | .non, .non => true
  | .bl a, .bl b => a == b
  | .bl a, .int b => (if a then 1 else 0) == b
  | .int a, .bl b => a == (if b then 1 else 0)
  | .int a, .int b => a == b
  | .str a, .str b => a == b
  | _, _ => false
theorem eqAt_V {A : Around} {s : Shared} {y x : V} {u v : Value} (ry : RelV y u) (rx : RelV x v) (fy : flatV y = true) (fx : flatV x = true) : SeqAt.EqAt A s u v (eqV y x) := by
  cases y with
  | non =>
    cases ry
    cases x with
    | non => cases rx; exact SeqAt.EqAt.same _
    | bl b => cases rx; exact SeqAt.EqAt.none_bool b
    | int b => obtain ⟨t, rfl⟩ := rx; exact SeqAt.EqAt.none_int b t
    | str b => obtain ⟨t, rfl⟩ := rx; exact SeqAt.EqAt.none_str b t
    | _ => exact absurd (show false = true from fx) Bool.false_ne_true
  | bl a =>
    cases ry
    cases x with
    | non => cases rx; exact SeqAt.EqAt.bool_none a
    | bl b => cases rx; exact SeqAt.EqAt.bool_bool a b
    | int b => obtain ⟨t, rfl⟩ := rx; exact SeqAt.EqAt.bool_int a b t
    | str b => obtain ⟨t, rfl⟩ := rx; exact SeqAt.EqAt.bool_str a b t
    | _ => exact absurd (show false = true from fx) Bool.false_ne_true
  | int a =>
    obtain ⟨t', rfl⟩ := ry
    cases x with
    | non => cases rx; exact SeqAt.EqAt.int_none a t'
    | bl b => cases rx; exact SeqAt.EqAt.int_bool a t' b
    | int b => obtain ⟨t, rfl⟩ := rx; exact SeqAt.EqAt.int_int a t' b t
    | str b => obtain ⟨t, rfl⟩ := rx; exact SeqAt.EqAt.int_str a t' b t
    | _ => exact absurd (show false = true from fx) Bool.false_ne_true
  | str a =>
    obtain ⟨t', rfl⟩ := ry
    cases x with
    | non => cases rx; exact SeqAt.EqAt.str_none a t'
    | bl b => cases rx; exact SeqAt.EqAt.str_bool a t' b
    | int b => obtain ⟨t, rfl⟩ := rx; exact SeqAt.EqAt.str_int a t' b t
    | str b => obtain ⟨t, rfl⟩ := rx; exact SeqAt.EqAt.str_str a t' b t
    | _ => exact absurd (show false = true from fx) Bool.false_ne_true
  | _ => exact absurd (show false = true from fy) Bool.false_ne_true
def eqU (x : V) (u : Value) : Bool := match u with
  | .none => eqV .non x
  | .bool b => eqV (.bl b) x
  | .int i _ => eqV (.int i) x
  | .str z _ => eqV (.str z) x
  | _ => false
theorem eqU_of {x y : V} {u : Value} (r : RelV y u) (f : flatV y = true) : eqU x u = eqV y x := by
  cases y with
  | non => cases r; rfl
  | bl b => cases r; rfl
  | int i => obtain ⟨t, rfl⟩ := r; rfl
  | str z => obtain ⟨t, rfl⟩ := r; rfl
  | _ => exact absurd (show false = true from f) Bool.false_ne_true
theorem any_eqU {x : V} : ∀ {xs : List V} {us : List Value}, Vals xs us → xs.all flatV = true → us.any (eqU x) = xs.any fun y => eqV y x
  | _, _, .nil, _ => rfl
  | y :: xs, u :: us, .cons r t, f => by
    rw [List.all_cons, Bool.and_eq_true] at f
    rw [List.any_cons, List.any_cons, eqU_of r f.1, any_eqU t f.2]
theorem mem_eqAt {A : Around} {s : Shared} {x : V} {v : Value} (rx : RelV x v) (fx : flatV x = true) : ∀ {xs : List V} {us : List Value}, Vals xs us → xs.all flatV = true → ∀ u ∈ us, SeqAt.EqAt A s u v (eqU x u)
  | _, _, .nil, _ => fun u hu => by cases hu
  | y :: xs, u :: us, .cons r t, f => fun u' hu => by
    rw [List.all_cons, Bool.and_eq_true] at f
    rcases List.mem_cons.mp hu with rfl | hu
    · rw [eqU_of r f.1]; exact eqAt_V r rx f.1 fx
    · exact mem_eqAt rx fx t f.2 u' hu
def inV (x : V) (xs : List V) : Bool := xs.any fun y => eqV y x
def rIn (K : PySem.W.Frag) (neg : Bool) : R2 := fun x y H Q => ∃ p xs, y = .ref p ∧ (SqL K H p xs ∨ SqT K H p xs) ∧ flatV x = true ∧ xs.all flatV = true ∧ Q (.bl (if neg then !inV x xs else inV x xs)) H
theorem op_notIn_seq : OpR X (compareOp .NotIn) (rIn X.K true) := by
  intro pins s σ H x y v u Q I rx ry h
  obtain ⟨p, xs, rfl, hq, fx, fs, q⟩ := h
  cases ry
  rcases hq with hq | hq
  · obtain ⟨its, r, pl, hz⟩ := I.list hq
    refine SeqAt.notIn_listAt (eqU x) pl.isList (fun w hw => mem_eqAt rx fx r fs w (by simpa using hw)) ⟨.bl _, H, I, rfl, ?_⟩
    rw [show its.toArray.any (eqU x) = its.any (eqU x) by simp, any_eqU r fs]
    exact q
  · obtain ⟨its, r, pl, hz⟩ := I.tuple hq
    refine SeqAt.notIn_tupleAt (eqU x) pl (fun w hw => mem_eqAt rx fx r fs w (by simpa using hw)) ⟨.bl _, H, I, rfl, ?_⟩
    rw [show its.toArray.any (eqU x) = its.any (eqU x) by simp, any_eqU r fs]
    exact q
theorem call_len_seq : CallR X (.builtin "len") (fun xs H Q => ∃ p ys, xs = [.ref p] ∧ (SqL X.K H p ys ∨ SqT X.K H p ys) ∧ Q (.int ys.length) H) := by
  intro pins s σ H xs us Q I r h
  obtain ⟨p, ys, rfl, hq, q⟩ := h
  obtain ⟨u, rfl, rx⟩ := vals1 r
  cases rx
  have hn := line63
  rcases hq with hq | hq
  · obtain ⟨its, r', pl, hz⟩ := I.list hq
    have hlen := r'.length
    exact Calls.call_len_list pl.isList (by simp only [List.size_toArray] <;> omega) ⟨.int ys.length, H, I.tok _, ⟨s.toks + 1, by rw [List.size_toArray, hlen]⟩, q⟩
  · obtain ⟨its, r', pl, hz⟩ := I.tuple hq
    have hlen := r'.length
    exact len_tuple pl (by simp only [List.size_toArray] <;> omega) ⟨.int ys.length, H, I.tok _, ⟨s.toks + 1, by rw [List.size_toArray, hlen]⟩, q⟩
def tyV (K : PySem.W.Frag) (T : String) (x : V) (H : Hp) : Prop := match x with
  | .str _ => T = "str"
  | .int _ => T = "int"
  | .ref p => (T = "list" ∧ ∃ xs, SqL K H p xs) ∨ (T = "tuple" ∧ ∃ o, K.lookup p = some o ∧ o.cls = .type "tuple" ∧ o.dict = none) ∨
      (T = "dict" ∧ ((∃ kvs, H p = some (.dK kvs)) ∨ ∃ kvs, H p = some (.dT kvs))) ∨ (T = "set" ∧ ∃ S n, H p = some (.set S n))
  | _ => False
theorem tyV_is {pins : List (Addr × Obj)} {σ : St} {H : Hp} {s : Shared} {T : String} {x : V} {v : Value} (I : Inv X pins σ H s) (r : RelV x v) (ty : tyV X.K T x H) :
    s.TypeIs v T ∧ ∀ a, v = .ref a → ∃ ob, s.heap.get? a = some ob ∧ ob.dict = none := by
  cases x with
  | str z =>
    obtain ⟨t, rfl⟩ := r
    cases (show T = "str" from ty)
    exact ⟨typeIs_str s z t, fun _ e => nomatch e⟩
  | int i =>
    obtain ⟨t, rfl⟩ := r
    cases (show T = "int" from ty)
    exact ⟨typeIs_int s i t, fun _ e => nomatch e⟩
  | ref p =>
    cases r
    rcases ty with ⟨rfl, xs, hq⟩ | ⟨rfl, o, hk, hc, hd⟩ | ⟨rfl, hk⟩ | ⟨rfl, S, n, hk⟩
    · obtain ⟨its, _, pl, _⟩ := I.list hq
      refine ⟨pl.isList.typeIs, fun a e => ?_⟩
      cases e
      obtain ⟨o, n, e, c, hd, _⟩ := pl
      exact ⟨o, e, hd⟩
    · refine ⟨⟨o, I.kIn p o hk, hc⟩, fun a e => ?_⟩
      cases e
      exact ⟨o, I.kIn _ o hk, hd⟩
    · have z : ∃ o, s.heap.get? p = some o ∧ o.ExactDict := by
        rcases hk with ⟨kvs, hk⟩ | ⟨kvs, hk⟩
        · obtain ⟨_, _, _, _, o, _, _, e, ex, _⟩ := I.hok p _ hk
          exact ⟨o, e, ex⟩
        · obtain ⟨_, _, _, _, o, _, _, e, ex, _⟩ := I.hok p _ hk
          exact ⟨o, e, ex⟩
      obtain ⟨o, e, ex⟩ := z
      refine ⟨⟨o, e, ex.1⟩, fun a e2 => ?_⟩
      cases e2
      exact ⟨o, e, ex.2.1⟩
    · obtain ⟨o, _, _, _, e, ex, _⟩ := I.hok p _ hk
      refine ⟨⟨o, e, ex.1⟩, fun a e2 => ?_⟩
      cases e2
      exact ⟨o, e, ex.2.1⟩
  | _ => exact False.elim ty
def tBM0 (K : PySem.W.Frag) (T : String) (r : V → List V → Hp → VK → Prop) (to : TE) : TE := fun σ H Q => to σ H fun x H1 => tyV K T x H1 ∧ r x [] H1 Q
def tBM (K : PySem.W.Frag) (T : String) (r : V → List V → Hp → VK → Prop) (to : TE) (t : TA) : TE := fun σ H Q => to σ H fun x H1 => tyV K T x H1 ∧ t σ H1 fun xs H2 => r x xs H2 Q
variable {o e : Expr} {es : List Expr} {to : TE} {t : TA} {name : Str} {apos cpos : Pos} {T id : String} {r : V → List V → Hp → VK → Prop}
theorem pe_bm0 (pa : PlainAttrs T) (slot : Slot T name id) (hty : typeOf (.builtin id) = pure (.type "method_descriptor")) (hm : MtR X id r) (ho : PE X o to)
    (hbase : attributeBase o name X.env (eval o X.env) = eval o X.env := by rfl) (hline : (apos.endLine == cpos.line) = true := by rfl) : PE X (.Call (.Attribute o name apos) [] [] cpos) (tBM0 X.K T r to) := by
  intro pins s σ H Q I h
  refine wpAny_Call_method0_late hbase hline (thn (ho pins s σ H _ I h) fun v s1 ⟨x, H1, I1, r1, ty, q1⟩ => ?_)
  obtain ⟨h1, h2⟩ := tyV_is I1 r1 ty
  exact ⟨T, id, pa, slot, hty, h1, h2, Calls.callWith_builtin rfl (PySem.evalArgs_none (hm pins s1 σ H1 x [] v [] Q I1 r1 .nil q1))⟩
theorem pe_bm (pa : PlainAttrs T) (slot : Slot T name id) (hty : typeOf (.builtin id) = pure (.type "method_descriptor")) (hm : MtR X id r) (ho : PE X o to) (ha : PA X (e :: es) t)
    (hbase : attributeBase o name X.env (eval o X.env) = eval o X.env := by rfl)
    (hfew : ((backTo cpos (starEach (e :: es) X.env)).all (fun x => !x.1) && (backToKw cpos (keywordEach [] X.env)).all (fun x => x.1.isSome)
      && decide ((e :: es).length + ([] : List Keyword).length + (if ([] : List Keyword).isEmpty then 0 else 1) < 30)) = true := by rfl)
    (hline : (apos.endLine == cpos.line) = true := by rfl) (hs : starEach (e :: es) X.env = (false, eval e X.env) :: starEach es X.env := by rfl) (hplain : (backTo cpos (starEach es X.env)).any (·.1) = false := by rfl) :
    PE X (.Call (.Attribute o name apos) (e :: es) [] cpos) (tBM X.K T r to t) := by
  intro pins s σ H Q I h
  refine wpAny_Call_method_late hbase hfew hline rfl (thn (ho pins s σ H _ I h) fun v s1 ⟨x, H1, I1, r1, ty, q1⟩ => ?_)
  obtain ⟨h1, h2⟩ := tyV_is I1 r1 ty
  refine ⟨T, id, pa, slot, hty, h1, h2, ?_⟩
  have hA := ha cpos pins s1 σ H1 _ I1 q1
  rw [hs] at hA ⊢
  refine Calls.callWith_builtin (by show (false || (backTo cpos (starEach es X.env)).any (·.1)) = false; rw [hplain] <;> rfl) (Calls.evalArgs_plain ?_)
  exact thn hA fun us s2 ⟨vs, H2, I2, r2, q2⟩ => hm pins s2 σ H2 x vs v us Q I2 r1 r2 q2
end
end L2
namespace L2
open PySem PySem.Spec PyProof.Rows
def MtM (X : Cx) (id : String) (r : V → List V → Hp → VK → Prop) : Prop :=
  ∀ (pins : List (Addr × Obj)) (s : Shared) (σ : St) (H : Hp) (x : V) (xs : List V) (v : Value) (us : List Value) (Q : VK), Inv X pins σ H s → RelV x v → Vals xs us → r x xs H Q →
    wpAny (model X.prog X.w) X.A (call (.builtin id) (v :: us)) (EP X pins σ Q) X.xe s

theorem Vals.one : ∀ {x : V} {us : List Value}, Vals [x] us → ∃ u, us = [u] ∧ RelV x u
  | _, _, .cons r .nil => ⟨_, rfl, r⟩
theorem Vals.two : ∀ {x y : V} {us : List Value}, Vals [x, y] us → ∃ u v, us = [u, v] ∧ RelV x u ∧ RelV y v
  | _, _, _, .cons r (.cons q .nil) => ⟨_, _, rfl, r, q⟩
theorem Vals.zero : ∀ {us : List Value}, Vals [] us → us = []
  | _, .nil => rfl
theorem Vals.rep {xs : List V} {us : List Value} (h : Vals xs us) : ∀ k : Nat, Vals (List.replicate k xs).flatten (List.replicate k us).flatten
  | 0 => .nil
  | k + 1 => by
    rw [List.replicate_succ, List.replicate_succ, List.flatten_cons, List.flatten_cons]
    exact Vals.append h (Vals.rep h k)
theorem foldl_rep (its : List Value) : ∀ (k : Nat) (acc : List Value),
    List.foldl (fun x1 x2 => x1 ++ x2) acc.toArray (List.replicate k its.toArray) = (acc ++ (List.replicate k its).flatten).toArray
  | 0, acc => by simp
  | k + 1, acc => by
    have e : acc.toArray ++ its.toArray = (acc ++ its).toArray := by simp
    have e2 : (acc ++ its) ++ (List.replicate k its).flatten = acc ++ (List.replicate (k + 1) its).flatten := by
      rw [List.replicate_succ, List.flatten_cons, List.append_assoc]
    rw [← e2, ← foldl_rep its k (acc ++ its), ← e, List.replicate_succ, List.foldl_cons]

section
variable {X : Cx} {pins : List (Addr × Obj)} {σ : St} {H : Hp} {s : Shared} {l b : Addr} {xs ys zs : List V}
theorem Inv.lset {its its' : List Value} {n : Nat} {f : Array Value → Array Value} {t' : Nat} (I : Inv X pins σ H s) (hH : H l = some (.lst xs))
    (e : s.heap.get? l = some { cls := .type "list", data := .seq its.toArray n }) (hf : f its.toArray = its'.toArray) (hv : Vals ys its') (hz : ys.length ≤ sizeLine) :
    Inv X pins σ (upd H l (.lst ys)) { s with heap := s.heap.update l (Obj.mapSeq f), toks := t' } := by
  have q := PySem.IsL.update e f
  rw [hf] at q
  refine I.write (x := l) (e := l) (by rw [hH]; exact trivial) (.inl rfl) (fun b' u hb hu => (Heap.get?_update_other s.heap (Obj.mapSeq f) (Ne.symm hb)).trans hu) ⟨_, q⟩ ?_
  exact ⟨hz, its', _, hv, q⟩
theorem Inv.lnew {its : List Value} {t' : Nat} (I : Inv X pins σ H s) (hv : Vals ys its) (hz : ys.length ≤ sizeLine) :
    Inv X pins σ (upd H s.heap.objs.size (.lst ys)) { s with heap := s.heap.push { cls := .type "list", data := .seq its.toArray }, toks := t' } :=
  I.laid (fun _ _ q => Heap.get?_push_of_some _ q) (Nat.le_refl _) ⟨hz, its, 0, hv, Heap.get?_push_size _ rfl⟩
theorem Inv.fresh (I : Inv X pins σ H s) : H s.heap.objs.size = none := I.hok.fresh (Nat.le_refl _)
theorem Inv.lstM (I : Inv X pins σ H s) (hH : H l = some (.lst xs)) : xs.length ≤ sizeLine ∧ ∃ (its : List Value) (n : Nat), Vals xs its ∧ xs.length = its.length ∧ s.heap.get? l = some { cls := .type "list", data := .seq its.toArray n } := by
  obtain ⟨z, its, n, r, e⟩ := I.hok l _ hH
  exact ⟨z, its, n, r, r.length, e⟩

theorem notLongL {n : Nat} (h : n ≤ sizeLine) : Builtin.List.listTooLong n = false := by
  unfold Builtin.List.listTooLong
  exact decide_eq_false (by omega)
end
section
variable {X : Cx}
def rAppend : V → List V → Hp → VK → Prop := fun x vs H Q => ∃ l xs y, x = .ref l ∧ vs = [y] ∧ H l = some (.lst xs) ∧ xs.length < sizeLine ∧ Q .non (upd H l (.lst (xs ++ [y])))
theorem mt_append : MtM X "list.append" rAppend := by
  intro pins s σ H x vs v us Q I rx rv h
  obtain ⟨l, xs, y, rfl, rfl, hH, hz, q⟩ := h
  cases rx
  obtain ⟨u, rfl, ru⟩ := rv.one
  obtain ⟨z, its, n, r, hl, e⟩ := I.lstM hH
  refine call_meets F.slot_list_append ⟨_, e, rfl⟩ F.entry_list_append (F.args_list_append_2 _ _) (PySem.list_append l its.toArray n u (by rw [List.size_toArray]; omega)) ⟨e, ?_⟩
  refine ⟨.non, _, I.lset (its' := its ++ [u]) hH e (by simp) (r.append (.cons ru .nil)) ?_, rfl, q⟩
  rw [List.length_append, List.length_singleton]
  omega

def rExtend : V → List V → Hp → VK → Prop := fun x vs H Q => ∃ l b xs zs, x = .ref l ∧ vs = [.ref b] ∧ H l = some (.lst xs) ∧ H b = some (.lst zs) ∧ xs.length + zs.length ≤ sizeLine ∧ Q .non (upd H l (.lst (xs ++ zs)))
theorem mt_extend : MtM X "list.extend" rExtend := by
  intro pins s σ H x vs v us Q I rx rv h
  obtain ⟨l, b, xs, zs, rfl, rfl, hH, hB, hz, q⟩ := h
  cases rx
  obtain ⟨u, rfl, ru⟩ := rv.one
  cases ru
  obtain ⟨z, its, n, r, hl, e⟩ := I.lstM hH
  obtain ⟨z2, its2, n2, r2, hl2, e2⟩ := I.lstM hB
  have hsz : its.toArray.size + its2.toArray.size ≤ sizeLine := by rw [List.size_toArray, List.size_toArray]; omega
  have hlong : ¬ (!its.toArray.isEmpty && Builtin.List.listTooLong (its.toArray.size + its2.toArray.size)) = true := by
    rw [notLongL hsz, Bool.and_false]
    exact Bool.false_ne_true
  refine call_meets F.slot_list_extend ⟨_, e, rfl⟩ F.entry_list_extend (F.args_list_extend_2 _ _)
    (AutoSeq1.list_extend_list_list_0 l its.toArray n b its2.toArray n2 hlong (by rw [List.size_toArray]; omega) (by omega)) ⟨e, e2, ?_⟩
  refine ⟨.non, _, I.lset (its' := its ++ its2) hH e (by simp) (r.append r2) ?_, rfl, q⟩
  rw [List.length_append]
  omega

def rCat : R2 := fun x y H Q => ∃ l b xs zs, x = .ref l ∧ y = .ref b ∧ H l = some (.lst xs) ∧ H b = some (.lst zs) ∧ xs.length + zs.length ≤ sizeLine ∧ ∀ p, H p = none → Q (.ref p) (upd H p (.lst (xs ++ zs)))
theorem op_cat : OpR X (binaryOp .Add) rCat := by
  intro pins s σ H x y v u Q I rx ry h
  obtain ⟨l, b, xs, zs, rfl, rfl, hH, hB, hz, q⟩ := h
  cases rx
  cases ry
  obtain ⟨z, its, n, r, hl, e⟩ := I.lstM hH
  obtain ⟨z2, its2, n2, r2, hl2, e2⟩ := I.lstM hB
  refine PySem.P.add_list e e2 ?_ (by rw [List.size_toArray, List.size_toArray]; omega)
  have ea : its.toArray ++ its2.toArray = (its ++ its2).toArray := by simp
  rw [ea]
  exact ⟨.ref _, _, I.lnew (t' := s.toks) (r.append r2) (by rw [List.length_append]; omega), rfl, q _ I.fresh⟩
def rRep : R2 := fun x y H Q => ∃ l k xs, x = .ref l ∧ y = .int k ∧ H l = some (.lst xs) ∧ -(2 ^ 63) ≤ k ∧ k < 2 ^ 63 ∧ xs.length * k.toNat ≤ sizeLine ∧
  ∀ p, H p = none → Q (.ref p) (upd H p (.lst (List.replicate k.toNat xs).flatten))
theorem len_rep {α : Type} (xs : List α) (k : Nat) : (List.replicate k xs).flatten.length = k * xs.length := by
  induction k with
  | zero => simp
  | succ k ih => rw [List.replicate_succ, List.flatten_cons, List.length_append, ih, Nat.succ_mul, Nat.add_comm]
theorem op_rep : OpR X (binaryOp .Mult) rRep := by
  intro pins s σ H x y v u Q I rx ry h
  obtain ⟨l, k, xs, rfl, rfl, hH, h1, h2, hz, q⟩ := h
  cases rx
  obtain ⟨t, rfl⟩ := ry
  obtain ⟨z, its, n, r, hl, e⟩ := I.lstM hH
  have hlen : its.toArray.size * k.toNat ≤ sizeLine := by rw [List.size_toArray, ← hl]; exact hz
  have hcap : ¬ its.toArray.size * k.toNat > (2 ^ 63 - 1) / 8 := by
    have : (sizeLine : Nat) ≤ (2 ^ 63 - 1) / 8 := by decide
    omega
  have hfit : ¬ (!Builtin.List.listFitsIndex k) = true := by
    rw [fitsIndex_both h1 h2]
    exact Bool.false_ne_true
  have hlong : ¬ Builtin.List.listTooLong (its.toArray.size * k.toNat) = true := by
    rw [notLongL hlen]
    exact Bool.false_ne_true
  have hnew : List.foldl (fun x1 x2 => x1 ++ x2) #[] (List.replicate (if its.toArray.isEmpty = true then 0 else k.toNat) its.toArray) = (List.replicate k.toNat its).flatten.toArray := by
    have f0 : ∀ m : Nat, List.foldl (fun x1 x2 => x1 ++ x2) #[] (List.replicate m its.toArray) = (List.replicate m its).flatten.toArray := fun m => by
      have := foldl_rep its m []
      rw [List.nil_append] at this
      exact this
    rw [f0]
    cases its with
    | nil => simp
    | cons a r' => rw [if_neg (by simp)]
  refine wpAny_binaryOp_repeat_ref (T := "list") (U := "int") (by decide) ⟨_, e, rfl⟩ (fun s' => typeIs_int s' k t) noFill_list_mul F.fills_int_mul F.slot_int_rmul repeat_list F.slot_int_index.lookup
    (call_meets F.slot_int_rmul (typeIs_int s k t) F.entry_int_rmul (F.args_int_rmul_2 _ _) (int___rmul___int_list k t l its.toArray n)
      ⟨e, rfl, ⟨_, e, rfl⟩, call_meets F.slot_list_mul ⟨_, e, rfl⟩ F.entry_list_mul (F.args_list_mul_2 _ _) (AutoListH.list___mul___list_int_3 l its.toArray n k t hfit hcap hlong) ⟨e, ?_⟩⟩)
  rw [hnew]
  exact ⟨.ref _, _, I.lnew (t' := s.toks) (r.rep k.toNat) (by rw [len_rep, Nat.mul_comm]; exact hz), rfl, q _ I.fresh⟩

end
section
variable {prog : Program} {w : World} {A : Around} {E : Value → Shared → Prop} {s : Shared}
end
section
variable {X : Cx}
end
end L2
namespace Att
open PySem PySem.W PySem.Calls PyProof.Rows
theorem ints_of_wellAll {P : Params} {h : Heap} : ∀ (ns : List Int) (vs : List Value), WellAll P h vs (ns.map WData.int) → IntsAre vs ns := by
  intro ns
  induction ns with
  | nil =>
    intro vs w
    rw [List.map_nil] at w
    cases w
    exact .nil
  | cons n ns ih =>
    intro vs w
    rw [List.map_cons] at w
    cases w with
    | cons a b =>
      cases a
      exact .cons _ _ (ih _ b)

theorem script_of {l : OpenLaw} {n : Nat} (hn : l.most = some n) {P : Params} {h : Heap} {args : List WData} {vals : List Value}
    (hpre : l.row.toRowW.claim.pre args = true) (hwl : WellAll P h vals args) :
    ∃ a vs ns, vals = [Value.ref a] ∧ args = [WData.list (ns.map WData.int)] ∧ h.get? a = some { cls := .type "list", data := .seq vs.toArray } ∧ IntsAre vs ns ∧ ns.length ≤ n := by
  have hsh : WShape.hasAll [] args [.list .int] = true := (pre_splitW hpre).1
  have hc : l.pre.holds [] { args := args } = true := (pre_splitW hpre).2
  obtain ⟨d, r, rfl, h1, h2⟩ := hasAllW_cons hsh
  obtain rfl := hasAllW_nil h2
  obtain ⟨xs, rfl, h3⟩ := hasW_list h1
  obtain ⟨ns, rfl⟩ := items_int h3
  have hlen : ns.length ≤ n := by
    unfold OpenLaw.pre at hc
    have h4 : (WTm.not (.lt (.lit (.int (n : Int))) (.len (.arg 0)))).holds [] { args := [.list (ns.map .int)] } = true := by
      have h4 := (holds_andW hc).1
      rw [hn] at h4
      exact h4
    have h5 := condW_of h4 (w_not (w_lt w_lit (w_len_list (w_arg rfl))))
    rw [List.length_map] at h5
    refine Nat.le_of_not_lt fun q => ?_
    have q' : (n : Int) < ((ns.length : Nat) : Int) := by omega
    first
      | (rw [decide_eq_true q'] at h5; exact absurd h5 (by decide))
      | (simp at h5; omega)
  cases hwl with
  | cons w1 w2 =>
    cases w2
    cases w1 with
    | list ho hall => exact ⟨_, _, ns, rfl, rfl, ho, ints_of_wellAll ns _ hall, hlen⟩

theorem post_true (l : OpenLaw) (args : List WData) : l.row.toRowW.claim.post args (.bool true) args = true :=
  postW_of (r := l.row.toRowW) (X := (true == true))
    (show WShape.has [] (.bool true) .bool = true by first | rfl | decide | simp [WShape.has, WShape.arms, WShape.armsAll])
    (show (WTm.eq .res (.lit (.bool true))).value [] { args := args, res := some (.bool true), after := args } = some (.bool (true == true)) from w_eq_bool (w_res rfl) w_lit) rfl

theorem attach_call {l : OpenLaw} {n : Nat} {q : Program} {loose : List Str} {XP : (Str → Option Value) → Heap → Prop} {YP : World → Heap → Prop} {d : DefRec}
    (hn : l.most = some n) (hdf : d.params.defaults = [])
    (call : ∀ (w : World) (s₀ s₁ : Shared) (mg mb : Str → Option Value) (fa : Addr) (o : Obj) (pm cd doc : Value) (a : Addr) (vs : List Value) (ns : List Int),
      Ground q loose [] XP w s₀ mg mb s₁.heap → YP w s₁.heap →
      s₁.heap.get? fa = some o → o.data = .func (docDef d.name d.params d.body d.scope pm cd doc) → s₁.heap.CodeRec cd d.name → mg d.name = some (.ref fa) →
      s₁.heap.get? a = some { cls := .type "list", data := .seq vs.toArray } → IntsAre vs ns → ns.length ≤ n → s₁.gens = #[] →
      codeAny (model l.prog w) callerA (.call (.ref fa) ⟨[.ref a], []⟩) (fun r s' => r = .ok (.ret (.bool true)) ∧ OldK s₁.heap s'.heap ∧ s'.os = s₁.os ∧ AllBare s'.gens) s₁) :
    WalkO q loose XP YP l.row.toRowW d [] (fun f vs => PySem.call f vs) := by
  intro w s₀ s₁ mg mb G Y fa o pm cd doc dV kV ho hd hcd hD hmg hg args vals as hpre hlay hrd hwl hlo
  obtain rfl : dV = .none := Dflts.none hD hdf
  obtain rfl : kV = .none := Dflts.noKw hD
  obtain ⟨a, vs, ns, rfl, rfl, hobj, hints, hlen⟩ := script_of hn hpre hwl
  refine enter_call (codeAny_mono (call w s₀ s₁ mg mb fa o pm cd doc a vs ns G Y ho (fd_plain hd) hcd hmg hobj hints hlen hg) fun r s' hq => ?_)
  obtain ⟨rfl, h2, h3, h4⟩ := hq
  exact ⟨.inl ⟨.bool true, .bool true, [], rfl, fun _ => rfl, .bool true, post_true l _, fun _ => ⟨List.Pairwise.nil, fun _ hm => (nomatch hm)⟩⟩, h2, h3, h4⟩

section
variable {prog : Program} {w : World} {A : Around} {E : Value → Shared → Prop} {s : Shared} {K : Frag}
end
end Att
namespace L2
open PySem PySem.Spec PyProof.Rows
theorem vals_ints : ∀ {vs : List Value} {ns : List Int}, IntsAre vs ns → Vals (ns.map V.int) vs
  | _, _, .nil => .nil
  | _, _, .cons n t h => .cons ⟨t, rfl⟩ (vals_ints h)

def Only (H : Hp) : Prop := ∀ b, H b = none ∨ ∃ o xs, H b = some (.frz o (.lst xs))

theorem law_call {P : Program} {w : World} {K : PySem.W.Frag} {mg mb : Str → Option Value} {CX : CXT} {k : Nat} {fa a : Addr} {fd : FuncData} {x : Str} {sp : Sp} {s₁ : Shared} {vs : List Value} {ns : List Int}
    (KX : K.In s₁.heap) (hns : s₁.heap.Ns mainGlobals mg) (hb : s₁.heap.Ns builtinsNs mb) (hbb : ∀ x : Str, x ≠ "__name__" → mb x = bootBuiltins x) (hlim : s₁.heap.NoLimit) (hg : s₁.gens = #[])
    (ha : s₁.heap.get? a = some { cls := .type "list", data := .seq vs.toArray }) (hi : IntsAre vs ns) (hl : ns.length ≤ sizeLine) (hr : Room k callerA)
    (F : ∀ base : Heap, K.In base → base.Ns mainGlobals mg → FnOk P w K mg base CX k fa fd [x] sp) (hbind : ∀ (s : Shared) (u : Value), BindsTo s fd ⟨[u], []⟩ [(x, u)])
    (hsp : ∀ H : Hp, Only H → SqL K H a (ns.map V.int) → sp [.ref a] H (fun v _ => v = .bl true) fun _ _ _ => False)
    (hCX : ∀ H e s', CX [] H s₁ (fun _ _ _ => False) e s' → False) :
    codeAny (model P w) callerA (.call (.ref fa) ⟨[.ref a], []⟩) (fun r s' => r = .ok (.ret (.bool true)) ∧ OldK s₁.heap s'.heap ∧ s'.os = s₁.os ∧ AllBare s'.gens) s₁ := by
  have rv := vals_ints hi
  have lenV := hi.length
  -- from an abstract heap in which nothing but the script may be tracked
  have core : ∀ H : Hp, Only H → SqL K H a (ns.map V.int) → HOk P w H s₁.heap → (∀ b, H b ≠ none → b = a) → (H a ≠ none → K.lookup a = none) →
      codeAny (model P w) callerA (.call (.ref fa) ⟨[.ref a], []⟩) (fun r s' => r = .ok (.ret (.bool true)) ∧ OldK s₁.heap s'.heap ∧ s'.os = s₁.os ∧ AllBare s'.gens) s₁ := by
    intro H hO hS hok hA hK
    have base_of : ∀ {b : Addr} {o : Obj}, s₁.heap.get? b = some o → H b = none → (hidT s₁.heap H).get? b = some o := fun e n => hidT_get e n
    have noA : ∀ {b : Addr} {o : Obj} {es : Array DictEntry} {ep : Nat}, s₁.heap.get? b = some o → o.data = .dict es ep → H b = none := fun {b o es ep} e d => by
      cases q : H b with
      | none => rfl
      | some u =>
        have e' : b = a := hA b (by rw [q]; simp)
        subst e'
        rw [ha] at e; cases e
        have d' : Data.seq vs.toArray _ = Data.dict es ep := d
        cases d'
    have nsK : ∀ {b : Addr} {m : Str → Option Value}, s₁.heap.Ns b m → (hidT s₁.heap H).Ns b m := fun {b m} ⟨o, es, ep, e, d, r⟩ => ⟨o, es, ep, base_of e (noA e d), d, r⟩
    have hKb : K.In (hidT s₁.heap H) := fun b o e => base_of (KX b o e) (by
      cases q : H b with
      | none => rfl
      | some u =>
        have e' : b = a := hA b (by rw [q]; simp)
        subst e'
        rw [hK (by rw [q]; simp)] at e; cases e)
    have hM : Mod K mg (hidT s₁.heap H) := ⟨hKb, nsK hns, ⟨mb, nsK hb, hbb⟩, let ⟨mc, h1, h2⟩ := hlim; ⟨mc, nsK h1, h2⟩⟩
    have e0 : Env0 P w K mg (hidT s₁.heap H) callerA [] s₁ H := ⟨rfl, hM, fun b o e => of_hidT e, Nat.le_of_eq (hidT_size _ _), trivial, fun b hb => absurd (show b ∈ ([] : List Addr) from hb) (by simp), hok, .of_eq hg⟩
    refine codeAny_mono ((F _ hKb (nsK hns)).run callerA [] s₁ H ⟨[.ref a], []⟩ [.ref a] [.ref a] _ _ hr e0 (hbind s₁ (.ref a)) (.cons rfl .nil) (hsp H hO hS)) fun r s' h => ?_
    cases r with
    | error e => exact (hCX H e s' h).elim
    | ok fl =>
      cases fl with
      | next => exact False.elim h
      | brk => exact False.elim h
      | cont => exact False.elim h
      | ret u =>
        obtain ⟨v, H', os, bare, un, hok', r', q⟩ := h
        have q' : v = .bl true := q
        subst q'
        obtain rfl : u = Value.bool true := r'
        refine ⟨rfl, OldK.of_keep fun b o e => ?_, os, bare⟩
        cases q : H b with
        | none => exact un.keep b o e q (by intro z; exact absurd (show b ∈ ([] : List Addr) from z) (by simp)) (by simp)
        | some u =>
          rcases hO b with z | ⟨ob, xs, z⟩
          · rw [q] at z; cases z
          · have z2 := un.frzs b ob _ z
            obtain ⟨e1, _⟩ := hok b _ z
            obtain ⟨e2, _⟩ := hok' b _ z2
            rw [e] at e1; cases e1
            exact e2
  cases hk : K.lookup a with
  | some o =>
    -- the script is one of the module's own objects
    have e := KX a o hk
    rw [ha] at e
    cases e
    refine core (fun _ => none) (fun _ => .inl rfl) (.inr ⟨_, vs.toArray, _, hk, rfl, rfl, rfl, by rw [List.size_toArray, lenV]; exact hl, by simpa using rv⟩) (fun b u z => by have z' : (none : Option HO) = some u := z; cases z') (fun b z => absurd rfl z) fun z => absurd rfl z
  | none =>
    refine core (fun b => if b = a then some (.frz { cls := .type "list", data := .seq vs.toArray } (.lst (ns.map V.int))) else none) (fun b => ?_) (.inl (.inr ⟨{ cls := .type "list", data := .seq vs.toArray }, if_pos rfl⟩)) (fun b u z => ?_) (fun b z => ?_) fun _ => hk
    · by_cases hb : b = a
      · exact .inr ⟨_, _, if_pos hb⟩
      · exact .inl (if_neg hb)
    · by_cases hb : b = a
      · have z' := (if_pos hb).symm.trans z
        cases z'
        subst hb
        exact ⟨ha, by rw [List.length_map]; exact hl, vs, _, rv, ha⟩
      · have z' := (if_neg hb).symm.trans z
        cases z'
    · by_cases hb : b = a
      · exact hb
      · exact absurd (if_neg hb) z
end L2
namespace L2
open PySem PySem.Spec PyProof.Rows
theorem walk_of {l : PySem.W.OpenLaw} {n k : Nat} {q : Program} {loose : List Str} {XP : (Str → Option Value) → Heap → Prop} {YP : World → Heap → Prop} {d : DefRec} {K : Params → PySem.W.Frag} {CX : World → CXT} {sp : World → Sp} {x : Str}
    (hn : l.most = some n) (hn2 : n ≤ sizeLine) (hdf : d.params.defaults = []) (hr : Room k callerA)
    (hY : ∀ (w : World) (h : Heap), YP w h → (K w.params).In h)
    (F : ∀ (w : World) (mg : Str → Option Value) (fa : Addr) (h : Heap), (K w.params).In h → h.Ns mainGlobals mg → mg d.name = some (.ref fa) →
      ∃ fd : FuncData, (∀ (s : Shared) (u : Value), BindsTo s fd ⟨[u], []⟩ [(x, u)]) ∧
        ∀ base : Heap, (K w.params).In base → base.Ns mainGlobals mg → FnOk l.prog w (K w.params) mg base (CX w) k fa fd [x] (sp w))
    (hsp : ∀ (w : World) (H : Hp) (a : Addr) (ns : List Int), ns.length ≤ n → Only H → SqL (K w.params) H a (ns.map V.int) → sp w [.ref a] H (fun v _ => v = .bl true) fun _ _ _ => False)
    (hCX : ∀ (w : World) (H : Hp) (s : Shared) (e : Value) (s' : Shared), CX w [] H s (fun _ _ _ => False) e s' → False) :
    PySem.W.WalkO q loose XP YP l.row.toRowW d [] (fun f vs => PySem.call f vs) := by
  refine Att.attach_call hn hdf fun w s₀ s₁ mg mb fa o pm cd doc a vs ns G Y ho hd hcd hmg hobj hints hlen hg => ?_
  have KX := hY w _ Y
  obtain ⟨fd, hb, hF⟩ := F w mg fa _ KX G.T.g hmg
  exact law_call KX G.T.g G.T.b G.T.builtins G.T.nolimit hg hobj hints (Nat.le_trans hlen hn2) hr hF hb (fun H hO hS => hsp w H a ns hlen hO hS) fun H e s' => hCX w H s₁ e s'
end L2
namespace L2
open PySem PySem.Spec PyProof.Rows
def defArgs (s : Stmt) : Arguments := match s with
  | .FunctionDef _ a _ _ _ _ _ _ _ _ => a
  | _ => { posonlyargs := [], args := [], vararg := none, kwonlyargs := [], kw_defaults := [], kwarg := none, defaults := [] }
def defBody (s : Stmt) : List Stmt := match s with
  | .FunctionDef _ _ b _ _ _ _ _ _ _ => b
  | _ => []
def defScope (s : Stmt) : Scope := match s with
  | .FunctionDef _ _ _ _ _ _ sc _ _ _ => sc
  | _ => { kind := .function, names := [], isGenerator := false, isCoroutine := false }

abbrev CX0 : CXT := fun _ _ _ _ _ _ => False
abbrev E0 : XK := fun _ _ _ => False
theorem pass0 {X : Cx} : Passes CX0 X E0 := fun _ _ _ _ _ _ _ h => h.elim

structure Fun (K : PySem.W.Frag) (x qual : Str) (st : Stmt) (f : Addr) (fd : FuncData) : Prop where
  ex : ∃ (oc : Value) (od : Option Addr) (kV doc pm : Value) (an : Option Addr) (cdv ct : Value) (osl : Array (Option Value)),
    fd = PySem.W.fnOf x qual (defArgs st) (defBody st) (defScope st) .none kV doc pm an cdv ct ∧ K.lookup f = some ⟨oc, od, .func fd, osl⟩ ∧ PySem.W.codeIn K cdv qual = true
  kp : PySem.W.keepIn K (.ref f) = true
section
variable {P : Program} {w : World} {K : PySem.W.Frag} {mg : Str → Option Value} {base : Heap}
theorem Fun.ok {x qual : Str} {st : Stmt} {f : Addr} {fd : FuncData} {N ps : List Str} {k : Nat} {sp : Sp} (F : Fun K x qual st f fd) (S : FnScope N ps (defScope st)) (len : ∀ vs H Q E, sp vs H Q E → vs.length = ps.length)
    (hbody : ∀ (cdv : Value) (A : Around) (outer : List Env) (s : Shared) (H : Hp) (vs : List V) (Q : VK) (E : XK), Room k (A.deeper (envOfC qual (defScope st) s.heap.objs.size f cdv)) → sp vs H Q E →
      ∃ t, PSs (cxOf CX0 P w K mg base N qual (defScope st) f cdv A outer s H E).nox (defBody st) t ∧ t { nx := fun _ H' => Q .non H', rt := Q } (start N vs) H) : FnOk P w K mg base CX0 (k + 1) f fd ps sp := by
  obtain ⟨oc, od, kV, doc, pm, an, cdv, ct, osl, rfl, lk, hcd⟩ := F.ex
  refine fn_of lk hcd S len fun A outer s H vs Q E hr hsp => ?_
  obtain ⟨t, h, q⟩ := hbody cdv A outer s H vs Q E hr hsp
  exact ⟨t, h.nox, q⟩
theorem Fun.binds {x qual : Str} {st : Stmt} {f : Addr} {fd : FuncData} {ps : List Str} (F : Fun K x qual st f fd)
    (h : ∀ (kV doc pm : Value) (an : Option Addr) (cdv ct : Value) (us : List Value), us.length = ps.length → bindArgs (PySem.W.fnOf x qual (defArgs st) (defBody st) (defScope st) .none kV doc pm an cdv ct) ⟨us, []⟩ = pure (ps.zip us)) : Binds K fd ps [] := by
  obtain ⟨oc, od, kV, doc, pm, an, cdv, ct, osl, rfl, lk, hcd⟩ := F.ex
  exact .all (h kV doc pm an cdv ct)
theorem fun_mk {x qual : Str} {st : Stmt} {f : Addr} {oc : Value} {od an : Option Addr} {osl : Array (Option Value)} {kV doc pm cdv ct : Value} (l : K.lookup f = some ⟨oc, od, .func (PySem.W.fnOf x qual (defArgs st) (defBody st) (defScope st) .none kV doc pm an cdv ct), osl⟩)
    (c : PySem.W.codeIn K cdv qual = true) (k : PySem.W.keepIn K (.ref f) = true) : Fun K x qual st f (PySem.W.fnOf x qual (defArgs st) (defBody st) (defScope st) .none kV doc pm an cdv ct) := ⟨⟨oc, od, kV, doc, pm, an, cdv, ct, osl, rfl, l, c⟩, k⟩
end
section
variable {X : Cx}
theorem pv (i : Nat) {x : Str} {pos : Pos} (hN : X.N[i]? = some x := by rfl) (hv : Vis X.env.scope x := by first | exact Or.inl rfl | exact Or.inr (Or.inl rfl) | exact Or.inr (Or.inr rfl)) (hd : (x == ("__debug__" : Str)) = false := by decide)
    (hcd : (x == ("__classdict__" : Str)) = false := by decide) : PE X (.Name x pos) (tVar i) := pe_var hN hv hd hcd
end
theorem iteF {A B : Prop} (h : B) : if false = true then A else B := by
  rw [if_neg Bool.false_ne_true]
  exact h
theorem iteT {A B : Prop} (h : A) : if true = true then A else B := by
  rw [if_pos rfl]
  exact h
theorem ite2 {c A B : Prop} [Decidable c] (h1 : c → A) (h2 : ¬ c → B) : if c then A else B := by
  by_cases h : c
  · rw [if_pos h]
    exact h1 h
  · rw [if_neg h]
    exact h2 h
theorem iteNS {c A B : Prop} [Decidable c] (hc : c) (h : B) : if (!decide c) = true then A else B := by
  rw [decide_eq_true hc]
  exact iteF h

def Same (H H' : Hp) : Prop := ∀ b o, H b = some o → H' b = some o
theorem Same.refl (H : Hp) : Same H H := fun _ _ h => h
theorem Same.trans {H H1 H2 : Hp} (a : Same H H1) (b : Same H1 H2) : Same H H2 := fun c o h => b c o (a c o h)
theorem Same.free {H H' : Hp} (e : Same H H') {l : Addr} (h : H' l = Option.none) : H l = Option.none := by
  cases q : H l with
  | none => rfl
  | some o =>
    rw [e l o q] at h
    cases h
theorem Same.seq {K : PySem.W.Frag} {H H' : Hp} {a : Addr} {xs : List V} (e : Same H H') (h : SqL K H a xs) : SqL K H' a xs := by
  rcases h with (h | ⟨o, h⟩) | h
  · exact .inl (.inl (e _ _ h))
  · exact .inl (.inr ⟨o, e _ _ h⟩)
  · exact .inr h

end L2
set_option Elab.async false
set_option linter.all false
set_option maxRecDepth 100000
set_option maxHeartbeats 5000000
namespace L2
open PySem PySem.Spec PyProof.Rows
section
variable {A : Around} {prog : Program} {w : World} {s : Shared} {R : Result → Shared → Prop}
theorem compLoop_any {el tgt src : Expr} {tests : List Expr} {sc : Scope} {ps : Pos} {itv ac : Value} {env : Env} (J : Nat → Shared → Prop)
    (trn : ∀ k t, J k t → wpAny (model prog w) A (pyNext itv) (fun z t₁ => match z with
      | none => R (.ok .next) t₁
      | some v => wpAny (model prog w) A (letOwnedTupleGo tgt itv v) (fun _ t₁ => wpAny (model prog w) A (assign tgt env v) (fun _ t₂ =>
          wpAny (model prog w) A (forIn tests true fun tst go => if go = true then do let yes ← isTrue tst env (eval tst env); pure (ForInStep.yield yes) else pure (ForInStep.yield go)) (fun yes t₃ =>
            if yes = true then wpAny (model prog w) A (eval el env) (fun x t₄ =>
              wpAny (model prog w) A (call (.builtin "list.append") [ac, x]) (fun _ t₅ => ∃ m, m < k ∧ J m t₅) (fun _ _ => False) t₄) (fun _ _ => False) t₃
            else ∃ m, m < k ∧ J m t₃) (fun _ _ => False) t₂) (fun _ _ => False) t₁) (fun _ _ => False) t₁) (fun _ _ => False) t)
    (k : Nat) (h : J k s) : codeAny (model prog w) A (.compLoop (.ListComp el [⟨tgt, src, tests, 0⟩] sc ps) 0 itv ac env) R s := by
  refine codeAny_loop rfl J (fun k t hJ => ?_) k h
  refine (wpAny_noted (m := compTurn (.ListComp el [⟨tgt, src, tests, 0⟩] sc ps) 0 itv ac env) ?_ : wpAny _ A _ _ _ t)
  rw [compTurn_list]
  refine wpAny_bind (wpAny_standAt (wpAny_bind (wpAny_mono (trn k t hJ) (fun z t₁ q₁ => ?_) fun _ _ f => f.elim)))
  cases z with
  | none => exact wpAny_pure q₁
  | some v =>
    refine wpAny_bind (wpAny_mono q₁ (fun _ t₁ q₁ => ?_) fun _ _ f => f.elim)
    refine wpAny_bind (wpAny_mono q₁ (fun _ t₂ q₂ => wpAny_bind (wpAny_mono q₂ (fun yes t₃ q₃ => ?_) fun _ _ f => f.elim)) fun _ _ f => f.elim)
    cases yes with
    | false => exact wpAny_pure (And.intro rfl q₃)
    | true =>
      exact wpAny_bind (wpAny_bind (wpAny_mono q₃ (fun x t₄ q₄ => wpAny_bind (wpAny_mono q₄ (fun _ t₅ q₅ => wpAny_pure (wpAny_pure ⟨rfl, q₅⟩)) fun _ _ f => f.elim)) fun _ _ f => f.elim))
end
theorem sub_nil {cells : List (Str × Addr)} : ∀ x c, ([] : List (Str × Addr)).lookup x = some c → cells.lookup x = some c := fun _ _ h => by cases h
theorem sub_cons {cells r : List (Str × Addr)} {k : Str} {a : Addr} (h1 : cells.lookup k = some a) (h2 : ∀ x c, r.lookup x = some c → cells.lookup x = some c) :
    ∀ x c, ((k, a) :: r).lookup x = some c → cells.lookup x = some c := fun x c h => by
  rw [List.lookup_cons] at h
  cases e : x == k with
  | true =>
    rw [e] at h
    have : x = k := by simpa using e
    subst this
    cases h
    exact h1
  | false =>
    rw [e] at h
    exact h2 x c h
theorem relabel_free {env : Env} : ∀ {names : List (Str × NameKind)} {x : Str}, (∀ y ∈ names, y.2 ≠ .cell) →
    ((names.map fun (n, k) => if (k == NameKind.free && env.scope.kind == .function && env.kindOf n == some .cell) then (n, NameKind.cell) else (n, k)).lookup x = some .cell ∨
     (names.map fun (n, k) => if (k == NameKind.free && env.scope.kind == .function && env.kindOf n == some .cell) then (n, NameKind.cell) else (n, k)).lookup x = some .free) → (x, NameKind.free) ∈ names
  | [], x, _, h => by simp at h
  | (n, k) :: r, x, hc, h => by
    have ih := @relabel_free env r x (fun y hy => hc y (List.mem_cons_of_mem _ hy))
    rw [List.map_cons] at h
    dsimp only at h
    by_cases c : (k == NameKind.free && env.scope.kind == .function && env.kindOf n == some .cell) = true
    · have hk : k = .free := by
        have := (Bool.and_eq_true_iff.mp (Bool.and_eq_true_iff.mp c).1).1
        cases k <;> first | rfl | (exact absurd this (by decide))
      rw [if_pos c, List.lookup_cons] at h
      cases e : x == n with
      | true =>
        have : x = n := by simpa using e
        subst this; subst hk
        exact List.mem_cons_self
      | false =>
        rw [e] at h
        exact List.mem_cons_of_mem _ (ih h)
    · rw [if_neg c, List.lookup_cons] at h
      cases e : x == n with
      | true =>
        have : x = n := by simpa using e
        subst this
        rw [e] at h
        rcases h with h | h
        · exact absurd (Option.some.inj h) (hc (x, k) List.mem_cons_self)
        · have := Option.some.inj h
          subst this; exact List.mem_cons_self
      | false =>
        rw [e] at h
        exact List.mem_cons_of_mem _ (ih h)
theorem free_ok {names : List (Str × NameKind)} {cl : List (Str × Addr)} (h : names.all (fun y => !(y.2 == NameKind.free) || (cl.lookup y.1).isSome) = true) : ∀ y ∈ names, y.2 = .free → ∃ c, cl.lookup y.1 = some c := fun y hy e => by
  have q := List.all_eq_true.mp h y hy
  rw [e] at q
  exact Option.isSome_iff_exists.mp (by simpa using q)
theorem cap_nil {α : Type} {F : α → Prop} : ∀ p ∈ ([] : List α), F p := fun _ h => (nomatch h)
theorem cap_cons {α : Type} {F : α → Prop} {p : α} {l : List α} (h : F p) (r : ∀ q ∈ l, F q) : ∀ q ∈ p :: l, F q := fun q hq => by
  rcases List.mem_cons.mp hq with e | e
  · rw [e]; exact h
  · exact r q e
def cxComp (X : Cx) (scope : Scope) (cl : List (Str × Addr)) (N' : List Str) (C : Addr) (s : Shared) (H : Hp) (fp : List Addr) : Cx where
  prog := X.prog
  w := X.w
  K := X.K
  mg := X.mg
  base := X.base
  A := X.A
  N := N'
  s₀ := s
  H₀ := H
  env := compEnvC scope cl C X.env
  outer := X.stack
  stack := X.stack
  ex := fp
  fn := fun _ => false
  calm := X.calm
  pn := []
  xe := fun _ _ => False
def PTs (X : Cx) (ifs : List Expr) (t : TT) : Prop :=
  ∀ (pins : List (Addr × Obj)) (s : Shared) (σ : St) (H : Hp) (Q : Bool → Hp → Prop), Inv X pins σ H s → t σ H Q →
    wpAny (model X.prog X.w) X.A (forIn ifs true fun c r => if r = true then do let ok ← isTrue c X.env (eval c X.env); pure (ForInStep.yield ok) else pure (ForInStep.yield r)) (TP X pins σ Q) X.xe s
def tYes : TT := fun _ H Q => Q true H
theorem pts_nil {X : Cx} : PTs X [] tYes := fun _ _ _ H _ I h => wpAny_tests_nil ⟨H, I, h⟩
def compSt (cap : List (Str × Nat)) (k : Nat) (σ : St) : St := cap.map (fun p => (σ[p.2]?).join) ++ List.replicate k none
def CompGo (J : It) (g : TG) (tc : TT) (te : TE) (σ' : St) (Q : VK) (H1 : Hp) : Prop :=
  ∃ W : Nat → Nat → List V → Hp → Prop, (∃ m, W 0 m [] H1) ∧ ∀ i m ys H, W i m ys H →
    (J.stop i H ∧ ∀ D, H D = none → Q (.ref D) (upd H D (.lst ys))) ∨
    (J.go i H ∧ ys.length < sizeLine ∧ ∃ N : List V → Hp → Prop, (∀ ys' H', N ys' H' → ∃ m', m' < m ∧ W (i + 1) m' ys' H') ∧
      ∀ x H', J.yld i H x H' → g x σ' H' fun σ2 H2 => tc σ2 H2 fun b H3 => if b = true then te σ2 H3 fun y H4 => N (ys ++ [y]) H4 else N ys H3)
def tComp (cap : List (Str × Nat)) (k : Nat) (wi : TI) (g : TG) (tc : TT) (te : TE) : TE := fun σ H Q => wi σ H fun J H1 => CompGo J g tc te (compSt cap k σ) Q H1
def Leaves (n : Nat) (g : TG) : Prop := ∀ x σ H Q, g x σ H Q → g x σ H fun σ2 H2 => (σ2.length = σ.length ∧ ∀ j, j < n → σ2[j]? = σ[j]?) ∧ Q σ2 H2
theorem leaves_name {n i : Nat} (h : n ≤ i) : Leaves n (gName i) := fun x σ H Q q => ⟨⟨by simp, fun j hj => by rw [List.getElem?_set_ne (by omega)]⟩, q⟩
abbrev lstO (us : List Value) : Obj := { cls := .type "list", data := .seq us.toArray us.length }

structure Fin (X : Cx) (pins : List (Addr × Obj)) (H : Hp) (s : Shared) (C : Addr) : Prop where
  none : H C = Option.none
  loc : C ≠ X.env.locals
  sz : X.s₀.heap.objs.size ≤ C
  cel : ∀ x c, X.env.cells.lookup x = some c → c ≠ C
  pin : ∀ p ∈ X.pn ++ pins, p.1 ≠ C
  ns : ∃ m, s.heap.Ns C m
theorem Fin.go {X : Cx} {pins : List (Addr × Obj)} {σ : St} {H : Hp} {s : Shared} {C : Addr} (f : Fin X pins H s C) (I : Inv X pins σ H s) {h' : Heap} (sb : Heap.SameBut C s.heap h') : Inv X pins σ H { s with heap := h' } :=
  I.turned (t' := s.toks) (it := C) (fun b o hb e => (sb.2 b hb).trans e) f.none f.loc (.inr f.sz) f.cel f.pin
theorem comp_core {X : Cx} {elt iter tg : Expr} {ifs : List Expr} {scope : Scope} {pos pos' : Pos} {cl : List (Str × Addr)} {cap : List (Str × Nat)} {tgs : List Str} {wi : TI} {g : TG} {tc : TT} {te : TE}
    (hc : X.calm = true) (hclos : closureFor scope X.env = pure cl) (hkind : scope.kind = .function)
    (hnames : ∀ x ∈ scope.names, x.2 = .local → scope.names.lookup x.1 = some .local) (hcell : ∀ y ∈ scope.names, y.2 ≠ .cell)
    (hfree : ∀ y ∈ scope.names, y.2 = .free → ∃ c, cl.lookup y.1 = some c)
    (hsub : ∀ x c, cl.lookup x = some c → X.env.cells.lookup x = some c)
    (hcap : ∀ p ∈ cap, X.N[p.2]? = some p.1 ∧ (X.env.kindOf p.1 = some .cell ∨ X.env.kindOf p.1 = some .free) ∧ ((relabel scope X.env).names.lookup p.1 = some .cell ∨ (relabel scope X.env).names.lookup p.1 = some .free) ∧ ∃ c, cl.lookup p.1 = some c)
    (hl : Leaves cap.length g) (hi : PI X tg iter wi)
    (hb : ∀ C s H fp, PG (cxComp X scope cl (cap.map (·.1) ++ tgs) C s H fp) tg g ∧ PTs (cxComp X scope cl (cap.map (·.1) ++ tgs) C s H fp) ifs tc ∧ PE (cxComp X scope cl (cap.map (·.1) ++ tgs) C s H fp) elt te)
    (hs : ∀ x, foldedSetIterable iter X.env x = pure x)
    {pins : List (Addr × Obj)} {s : Shared} {σ : St} {H : Hp} {Q : VK} {Qp : Value → Shared → Prop} {use : Option (Value → Sem Unit)} (I : Inv X pins σ H s) (h : tComp cap tgs.length wi g tc te σ H Q)
    (fin : ∀ D C H' s', Inv X pins σ H' s' → Fin X pins H' s' C → Q (.ref D) H' → compPost (model X.prog X.w) X.A X.xe use Qp (.ref D) C (.ok .next) s') :
    wpAny (model X.prog X.w) X.A (comprehension (.ListComp elt [⟨tg, iter, ifs, 0⟩] scope pos) scope X.env pos' (newList []) false (eval iter X.env) use) Qp X.xe s := by
  refine wpAny_comprehension_free (g := ⟨tg, iter, ifs, 0⟩) (gs := []) rfl hs hclos hkind hnames ?_
  refine thn (hi pins s σ H _ I h) fun v s1 h1 => thn h1 fun itv s2 h2 => ?_
  obtain ⟨it, fp, tn, J, H2, e, I2, T, st2, f2, W, ⟨m0, w0⟩, turn⟩ := h2
  subst e
  refine wpAny_newObj_type (wpAny_newFunctionEnv hcell (fun y hy => (by simp at hy)) (fun h₁ hns₁ hsb₁ => ?_) hkind)
  dsimp only at hns₁ hsb₁ ⊢
  generalize hH2 : s2.heap.push { cls := .type "list", dict := none, data := .seq ([] : List Value).toArray } = HH at hns₁ hsb₁ ⊢
  have hC : HH.objs.size = s2.heap.objs.size + 1 := by rw [← hH2, Heap.size_push]
  have hDC : s2.heap.objs.size ≠ HH.objs.size := by rw [hC]; exact Nat.ne_of_lt (Nat.lt_succ_self _)
  have below : ∀ b, b < s2.heap.objs.size → b ≠ HH.objs.size ∧ b ≠ s2.heap.objs.size := fun b hb => ⟨by rw [hC]; exact Nat.ne_of_lt (Nat.lt_succ_of_lt hb), Nat.ne_of_lt hb⟩
  have old : ∀ b o, s2.heap.get? b = some o → h₁.get? b = some o := fun b o e => hsb₁.extBut b o (below b (Heap.lt_size e)).1 (Heap.get?_push_of_some _ (hH2 ▸ Heap.get?_push_of_some _ e))
  have hacc : h₁.get? s2.heap.objs.size = some (lstO []) := hsb₁.extBut _ _ hDC (Heap.get?_push_of_some _ (hH2 ▸ Heap.get?_push_size _ rfl))
  have fpold : ∀ b ∈ fp, b < s2.heap.objs.size := fun b hb => let ⟨o, e, _⟩ := T.obj _ _ st2 b hb; Heap.lt_size e
  have celo : ∀ x c, cl.lookup x = some c → c < s2.heap.objs.size := fun x c e => let ⟨v, q⟩ := I2.cell x c (hsub x c e); q.lt
  have frold : ∀ b ∈ frs X.stack, b < s2.heap.objs.size := fun b hb => by
    obtain ⟨_, o, ho, _⟩ := I2.stack.mem hb
    exact Heap.lt_size ho
  generalize hX : cxComp X scope cl (cap.map (·.1) ++ tgs) HH.objs.size s2 H2 fp = X'
  have ok' : X'.Ok := by
    subst hX
    refine { mod := I2.ok.mod, kind := hkind, glob := I2.ok.glob, blt := I2.ok.blt, above := ?_, inj := fun x y c a b => I2.ok.inj x y c (hsub x c a) (hsub y c b), has := ?_, cab := fun x c h => (nomatch h), hd := I2.ok.hd, frames := I2.ok.frames, stk := .inl rfl, exf := ?_, bs := I2.bs, bsz := Nat.le_trans I2.ok.bsz I2.sz, noex := ?_, exfs := ?_, funs := I2.stack, frf := I2.stkFree }
    · show s2.heap.objs.size ≤ HH.objs.size
      rw [hC]; exact Nat.le_succ _
    · intro x hx
      exact hfree (x, .free) (relabel_free hcell hx) rfl
    · intro b hb
      exact ⟨(below b (fpold b hb)).1, fun x c e => (f2 b hb).2.2.2.2.1 x c (hsub x c e)⟩
    · intro b o e hb
      rcases (f2 b hb).2.2.2.1 with z | z
      · exact I2.ok.noex b o e z
      · exact absurd (Nat.lt_of_lt_of_le (Heap.lt_size (I2.ok.bs b o e).1) z) (Nat.lt_irrefl _)
    · intro b hb hm
      rcases List.mem_cons.mp (I2.stkSub b hm) with z | z
      · exact (f2 b hb).2.1 z
      · exact (f2 b hb).2.2.1 z
  have Inv0 : Inv X' [(s2.heap.objs.size, lstO [])] (compSt cap tgs.length σ) H2 { s2 with heap := h₁, toks := s2.toks + ([] : List (Str × Value)).length } := by
    subst hX
    refine ⟨ok', rfl, I2.bare, Un.kept old, ⟨_, hns₁, ?_⟩, fun x c e => ?_, I2.hok.fresh (by rw [hC]; exact Nat.le_succ _), fun x c e => I2.freeC x c (hsub x c e), fun p hp => ?_, I2.hok.kept old, ?_⟩
    · intro j y v e1 e2 e3
      have e1' : (cap.map (·.1) ++ tgs)[j]? = some y := e1
      by_cases hj : j < cap.length
      · unfold compSt at e2
        rw [List.getElem?_append_left (by simpa using hj), List.getElem?_map] at e2
        rw [List.getElem?_append_left (by simpa using hj), List.getElem?_map] at e1'
        rw [List.getElem?_eq_getElem hj] at e1' e2
        have ey : cap[j].1 = y := by simpa using e1'
        have ev : (σ[cap[j].2]?).join = some v := by simpa using e2
        obtain ⟨c1, c2, c3, c, c4⟩ := hcap cap[j] (List.getElem_mem hj)
        have ev' : σ[cap[j].2]? = some (some v) := by
          cases q : σ[cap[j].2]? with
          | none => rw [q] at ev; cases ev
          | some z => rw [q] at ev; exact congrArg some ev
        rw [ey] at c1 c2 c3 c4
        obtain ⟨m, hn, hl'⟩ := I2.loc
        have vis : Vis X.env.scope y := by
          rcases c2 with c2 | c2
          · exact .inr (.inl c2)
          · exact .inr (.inr c2)
        obtain ⟨u, ru, lu⟩ := hl' _ y v c1 ev' vis
        refine ⟨u, ru, .inr ⟨c3, c, c4, ?_⟩⟩
        rcases lu with ⟨k, _⟩ | ⟨_, c', e', q⟩
        · rcases c2 with c2 | c2 <;> (rw [k] at c2; cases c2)
        · rw [hsub y c c4] at e'
          cases e'
          obtain ⟨o, ho, hd⟩ := q
          exact ⟨o, old _ _ ho, hd⟩
      · unfold compSt at e2
        rw [List.getElem?_append_right (by simpa using hj), List.getElem?_replicate] at e2
        split at e2 <;> cases e2
    · obtain ⟨v, o, ho, hd⟩ := I2.cell x c (hsub x c e)
      exact ⟨v, o, old _ _ ho, hd⟩
    · have hp' : p ∈ ([(s2.heap.objs.size, lstO [])] : List (Addr × Obj)) := hp
      obtain rfl := List.mem_singleton.mp hp'
      refine ⟨hacc, I2.hok.fresh (Nat.le_refl _), hDC, fun z => Nat.lt_irrefl _ (frold _ z), fun v z => ?_⟩
      have z' : Data.seq _ _ = Data.cell v := z
      cases z'
    · show (compSt cap tgs.length σ).length = (cap.map (·.1) ++ tgs).length
      unfold compSt
      simp
  have fpX : ∀ {us : List Value} {H' : Hp}, (∀ b ∈ fp, H' b = none) → ∀ b ∈ fp, FpOk X' [(s2.heap.objs.size, lstO us)] H' b := by
    subst hX
    intro us H' hn b hb
    refine ⟨hn b hb, (below b (fpold b hb)).1, fun z => ok'.exfs b hb z, .inl hb, fun x c e => (f2 b hb).2.2.2.2.1 x c (hsub x c e), fun p hp => ?_⟩
    have hp' : p ∈ ([(s2.heap.objs.size, lstO us)] : List (Addr × Obj)) := hp
    obtain rfl := List.mem_singleton.mp hp'
    exact Ne.symm (below b (fpold b hb)).2
  have eP : X'.prog = X.prog := by subst hX; rfl
  have eW : X'.w = X.w := by subst hX; rfl
  have eK : X'.K = X.K := by subst hX; rfl
  have eA : X'.A = X.A := by subst hX; rfl
  have eE : X'.env = compEnvC scope cl HH.objs.size X.env := by subst hX; rfl
  have eF : X'.fs = frs X.stack := by subst hX; rfl
  have eX : X'.ex = fp := by subst hX; rfl
  have eH : X'.H₀ = H2 := by subst hX; rfl
  have eS : X'.s₀ = s2 := by subst hX; rfl
  have ec : X'.calm = true := by subst hX; exact hc
  have epn : X'.pn = [] := by subst hX; rfl
  have exe : X'.xe = fun _ _ => False := by subst hX; rfl
  obtain ⟨hg, ht, he⟩ : PG X' tg g ∧ PTs X' ifs tc ∧ PE X' elt te := by subst hX; exact hb _ _ _ _
  have loop : codeAny (model X.prog X.w) X.A (.compLoop (.ListComp elt [⟨tg, iter, ifs, 0⟩] scope pos) 0 (.ref it) (.ref s2.heap.objs.size) (compEnvC scope cl HH.objs.size X.env))
      (compPost (model X.prog X.w) X.A X.xe use Qp (.ref s2.heap.objs.size) HH.objs.size) { s2 with heap := h₁, toks := s2.toks + ([] : List (Str × Value)).length } := by
    refine compLoop_any (fun n s' => ∃ i ys us H', Inv X' [(s2.heap.objs.size, lstO us)] (compSt cap tgs.length σ) H' s' ∧ Vals ys us ∧ ys.length ≤ sizeLine ∧ tn i s'.heap ∧ (∀ b ∈ fp, H' b = none) ∧ W i n ys H') ?_ m0
      ⟨0, [], [], H2, Inv0, .nil, Nat.zero_le _, T.keep _ _ _ st2 fun b _ o e => old b o e, fun b hb => (f2 b hb).1, w0⟩
    rintro n s3 ⟨i, ys, us, H3, I3, rv, hz, st3, fr3, w3⟩
    rcases turn i n ys H3 w3 with ⟨stop, qn⟩ | ⟨go, hlen, N, hN, step⟩
    · have d := T.done X' eP eW eK ec i _ s3 _ H3 (fun _ _ => False) I3 (fpX fr3) st3 stop
      rw [eA] at d
      refine thn d fun r s4 ⟨hr, I4⟩ => ?_
      subst hr
      obtain ⟨m, hn, _⟩ := id I4.loc
      rw [eE] at hn
      have pD := I4.pin (s2.heap.objs.size, lstO us) (by rw [epn]; simp)
      have fC : H3 HH.objs.size = none := by have := I4.free; rw [eE] at this; exact this
      have un := I4.base
      rw [eF, eX, eH, eS] at un
      have nD : ∀ b o, s2.heap.get? b = some o → b ≠ s2.heap.objs.size := fun b o e => (below b (Heap.lt_size e)).2
      have fD2 : H2 s2.heap.objs.size = none := I2.hok.fresh (Nat.le_refl _)
      have leC : s2.heap.objs.size ≤ HH.objs.size := by rw [hC]; exact Nat.le_succ _
      refine fin s2.heap.objs.size HH.objs.size (upd H3 s2.heap.objs.size (.lst ys)) s4 (I2.call' (ch := fp) ?_ ?_ ?_ I4.bare ?_)
        ⟨by rw [upd_ne (Ne.symm hDC)]; exact fC, Ne.symm (below _ I2.lt).1, Nat.le_trans I2.sz leC, fun x c e => ?_, fun p hp => (below _ (Heap.lt_size (I2.pin p hp).1)).1, ⟨m, hn⟩⟩ (qn _ pD.2.1)
      · have := I4.os; rw [eS] at this; exact this
      · refine ⟨un.keep, un.slot, fun b o e n hx => ?_, un.there, fun b xs q => ?_, fun b o u q => ?_, fun b ps q => ?_⟩
        · rw [upd_ne (nD b o e)]; exact un.free b o e n hx
        · rw [upd_ne (ne_of_none q fD2)]; exact un.tups b xs q
        · rw [upd_ne (ne_of_none q fD2)]; exact un.frzs b o u q
        · rw [upd_ne (ne_of_none q fD2)]; exact un.tbls b ps q
      · have hok := I4.hok
        rw [eP, eW] at hok
        intro b u e
        by_cases hb : b = s2.heap.objs.size
        · subst hb
          rw [upd_same] at e
          cases e
          exact ⟨hz, us, us.length, rv, pD.1⟩
        · rw [upd_ne hb] at e
          exact (hok b u e).stay (fun c v hcc q => q) (fun c q => by rw [upd_ne (ne_of_none q pD.2.1)]; exact q) fun c xs q => by rw [upd_ne (ne_of_none q pD.2.1)]; exact q
      · exact fun b hb => ⟨(f2 b hb).2.2.2.1, (f2 b hb).2.1, (f2 b hb).2.2.2.2.1, (f2 b hb).2.2.2.2.2⟩
      · obtain ⟨v, q⟩ := I2.cell x c e
        exact (below c q.lt).1
    · have d := T.item X' eP eW eK ec i _ s3 _ H3 (fun _ _ => False) I3 (fpX fr3) st3 go
      rw [eA] at d
      refine thn d fun r s4 ⟨u, hr, h4⟩ => ?_
      subst hr
      refine thn h4 fun _ s5 ⟨x, H5, I5, r5, y5, st5, fr5⟩ => ?_
      have I5' := I5.pinned (fpX fr5) (T.obj _ _ st5)
      have a6 := hg _ s5 _ H5 x u _ I5' r5 (hl x _ H5 _ (step x H5 y5))
      rw [eP, eW, eA, eE, exe] at a6
      refine thn a6 fun _ s6 ⟨σ6, H6, I6, ⟨kl, kj⟩, q6⟩ => ?_
      have a7 := ht _ s6 σ6 H6 _ I6 q6
      rw [eP, eW, eA, eE, exe] at a7
      refine thn a7 fun ok s7 ⟨H7, I7, q7⟩ => ?_
      have wk : ∀ {pl : List (Addr × Obj)} {H' : Hp} {s' : Shared}, Inv X' pl σ6 H' s' → Inv X' [] (compSt cap tgs.length σ) H' s' := fun {pl H' s'} I' =>
        (I'.weak kl.symm fun j v e => by
          by_cases hj : j < cap.length
          · rw [kj j hj]; exact e
          · unfold compSt at e
            rw [List.getElem?_append_right (by simpa using hj), List.getElem?_replicate] at e
            split at e <;> cases e).pins_of fun p hp => (nomatch hp)
      have keepI : ∀ {H' : Hp} {s' : Shared}, Inv X' ([(s2.heap.objs.size, lstO us)] ++ pinsAt fp s5.heap) σ6 H' s' → (∀ b ∈ fp, ∀ o, s5.heap.get? b = some o → s'.heap.get? b = some o ∧ H' b = none) := fun {H' s'} I' b hb o e => by
        have z := I'.pin (b, o) (by rw [epn]; exact List.mem_append_right _ (List.mem_append_right _ (mem_pinsAt hb e)))
        exact ⟨z.1, z.2.1⟩
      cases ok with
      | false =>
        have q7' : N ys H7 := q7
        obtain ⟨m', hm, w7⟩ := hN _ _ q7'
        have pD := I7.pin (s2.heap.objs.size, lstO us) (by rw [epn]; simp)
        refine ⟨m', hm, i + 1, ys, us, H7, ?_, rv, hz, T.keep _ _ _ st5 fun b hb o e => (keepI I7 b hb o e).1, fun b hb => ?_, w7⟩
        · exact (wk I7).pins_of fun p hp => by
            cases List.mem_singleton.mp hp
            exact pD
        · obtain ⟨o, e, _⟩ := T.obj _ _ st5 b hb
          exact (keepI I7 b hb o e).2
      | true =>
        have a8 := he _ s7 σ6 H7 _ I7 q7
        rw [eP, eW, eA, eE, exe] at a8
        refine thn a8 fun uy s8 ⟨y, H8, I8, ry, q8⟩ => ?_
        obtain ⟨m', hm, w8⟩ := hN _ _ q8
        have pD := I8.pin (s2.heap.objs.size, lstO us) (by rw [epn]; simp)
        refine append_at (hsz := by show us.toArray.size ≤ sizeLine; rw [List.size_toArray, ← rv.length]; exact hz) pD.1 fun h9 hs9 hD9 => ?_
        have fpD : ∀ b ∈ fp, b ≠ s2.heap.objs.size := fun b hb => (below b (fpold b hb)).2
        have I9 : Inv X' [] (compSt cap tgs.length σ) H8 { s8 with heap := h9 } := (wk I8).turned (t' := s8.toks) (it := s2.heap.objs.size) (fun b o hb e => (hs9.2 b hb).trans e) pD.2.1 pD.2.2.1 (.inr (by rw [eS]; exact Nat.le_refl _))
          (fun x c e z => by
            rw [eE] at e
            exact absurd (celo x c e) (by rw [z]; exact Nat.lt_irrefl _)) (fun p hp => by rw [epn] at hp; exact (nomatch hp))
        refine ⟨m', hm, i + 1, ys ++ [y], us ++ [uy], H8, ?_, rv.append (.cons ry .nil), by rw [List.length_append, List.length_singleton]; exact hlen, T.keep _ _ _ st5 fun b hb o e => (hs9.2 b (fpD b hb)).trans (keepI I8 b hb o e).1, fun b hb => ?_, w8⟩
        · refine I9.pins_of fun p hp => ?_
          cases List.mem_singleton.mp hp
          refine ⟨?_, pD.2.1, pD.2.2.1, pD.2.2.2.1, fun v z => ?_⟩
          · show h9.get? _ = some (lstO (us ++ [uy]))
            rw [hD9]
            show some ({ cls := .type "list", data := .seq (us.toArray.push uy) (us.length + 1) } : Obj) = some { cls := .type "list", data := .seq (us ++ [uy]).toArray (us ++ [uy]).length }
            rw [List.push_toArray, List.length_append, List.length_singleton]
          · have z' : Data.seq _ _ = Data.cell v := z
            cases z'
        · obtain ⟨o, e, _⟩ := T.obj _ _ st5 b hb
          exact (keepI I8 b hb o e).2
  exact codeAny_compStart_list loop (T.self _ 0 _ _ _ (T.keep _ _ _ st2 fun b _ o e => old b o e) loop)
theorem pe_listcomp {X : Cx} {elt iter tg : Expr} {ifs : List Expr} {scope : Scope} {pos : Pos} {cl : List (Str × Addr)} {cap : List (Str × Nat)} {tgs : List Str} {wi : TI} {g : TG} {tc : TT} {te : TE}
    (hc : X.calm = true) (hclos : closureFor scope X.env = pure cl) (hkind : scope.kind = .function)
    (hnames : ∀ x ∈ scope.names, x.2 = .local → scope.names.lookup x.1 = some .local) (hcell : ∀ y ∈ scope.names, y.2 ≠ .cell)
    (hfree : ∀ y ∈ scope.names, y.2 = .free → ∃ c, cl.lookup y.1 = some c)
    (hsub : ∀ x c, cl.lookup x = some c → X.env.cells.lookup x = some c)
    (hcap : ∀ p ∈ cap, X.N[p.2]? = some p.1 ∧ (X.env.kindOf p.1 = some .cell ∨ X.env.kindOf p.1 = some .free) ∧ ((relabel scope X.env).names.lookup p.1 = some .cell ∨ (relabel scope X.env).names.lookup p.1 = some .free) ∧ ∃ c, cl.lookup p.1 = some c)
    (hl : Leaves cap.length g) (hi : PI X tg iter wi)
    (hb : ∀ C s H fp, PG (cxComp X scope cl (cap.map (·.1) ++ tgs) C s H fp) tg g ∧ PTs (cxComp X scope cl (cap.map (·.1) ++ tgs) C s H fp) ifs tc ∧ PE (cxComp X scope cl (cap.map (·.1) ++ tgs) C s H fp) elt te)
    (hs : ∀ x, foldedSetIterable iter X.env x = pure x := by intro _; rfl) :
    PE X (.ListComp elt [⟨tg, iter, ifs, 0⟩] scope pos) (tComp cap tgs.length wi g tc te) := by
  intro pins s σ H Q I h
  rw [eval_ListComp]
  refine comp_core hc hclos hkind hnames hcell hfree hsub hcap hl hi hb hs I h fun D C H' s' I' f q => ?_
  obtain ⟨m, hn⟩ := f.ns
  exact ⟨m, hn, fun h' sb => ⟨.ref D, H', f.go I' sb, rfl, q⟩⟩
theorem ps_setcomp {X : Cx} {elt iter tg : Expr} {ifs : List Expr} {scope : Scope} {pos py spos : Pos} {y : Str} {i : Nat} {cl : List (Str × Addr)} {cap : List (Str × Nat)} {tgs : List Str} {wi : TI} {g : TG} {tc : TT} {te : TE}
    (hN : X.N.Nodup) (hiy : X.N[i]? = some y) (hy : Loc X.env.scope y)
    (hc : X.calm = true) (hclos : closureFor scope X.env = pure cl) (hkind : scope.kind = .function)
    (hnames : ∀ x ∈ scope.names, x.2 = .local → scope.names.lookup x.1 = some .local) (hcell : ∀ y ∈ scope.names, y.2 ≠ .cell)
    (hfree : ∀ y ∈ scope.names, y.2 = .free → ∃ c, cl.lookup y.1 = some c)
    (hsub : ∀ x c, cl.lookup x = some c → X.env.cells.lookup x = some c)
    (hcap : ∀ p ∈ cap, X.N[p.2]? = some p.1 ∧ (X.env.kindOf p.1 = some .cell ∨ X.env.kindOf p.1 = some .free) ∧ ((relabel scope X.env).names.lookup p.1 = some .cell ∨ (relabel scope X.env).names.lookup p.1 = some .free) ∧ ∃ c, cl.lookup p.1 = some c)
    (hl : Leaves cap.length g) (hi : PI X tg iter wi)
    (hb : ∀ C s H fp, PG (cxComp X scope cl (cap.map (·.1) ++ tgs) C s H fp) tg g ∧ PTs (cxComp X scope cl (cap.map (·.1) ++ tgs) C s H fp) ifs tc ∧ PE (cxComp X scope cl (cap.map (·.1) ++ tgs) C s H fp) elt te)
    (hs : ∀ x, foldedSetIterable iter X.env x = pure x := by intro _; rfl)
    (hsw : swapsWith (.ListComp elt [⟨tg, iter, ifs, 0⟩] scope pos) (some (.Name y py)) spos.line X.env = pure true := by rfl)
    (hf : X.fn y = true ∨ X.env.scope.names.lookup y = some .local := by first | exact .inl rfl | exact .inr rfl | assumption) :
    PS X (.Assign [.Name y py] (.ListComp elt [⟨tg, iter, ifs, 0⟩] scope pos) spos) (tAsg (tComp cap tgs.length wi g tc te) (gName i)) := by
  intro pins s σ H D I h
  rw [exec_Assign_Name_used _ _ _ _ hsw]; refine wpAny_bind (wpAny_standAt (wpAny_bind ?_))
  show wpAny _ X.A (do let _ ← comprehension (.ListComp elt [⟨tg, iter, ifs, 0⟩] scope pos) scope X.env _ (newList []) false (eval iter X.env) (some (assign (.Name y py) X.env))) _ _ s
  refine wpAny_bind (wpAny_mono (comp_core (use := some (assign (.Name y py) X.env)) (Qp := fun _ s' => SP X pins D .next s') hc hclos hkind hnames hcell hfree hsub hcap hl hi hb hs I h fun D' C H' s' I' f q => ?_) (fun _ s' hq => wpAny_pure (wpAny_pure hq)) fun _ _ e => e)
  show wpAny _ X.A (assign (.Name y py) X.env (.ref D')) _ _ _
  refine wpAny_assign_Name (store_ok2 I' hN hiy hy (v := .ref D') rfl (fun s'' I'' ⟨a, sa, ha⟩ => ?_) hf)
  obtain ⟨m, hn⟩ := f.ns
  have hCa : C ≠ a := by
    rcases ha with z | z
    · rw [z]; exact f.loc
    · exact Ne.symm (f.cel _ _ z)
  have f'' : Fin X pins H' s'' C := ⟨f.none, f.loc, f.sz, f.cel, f.pin, ⟨m, hn.sameBut sa hCa⟩⟩
  exact ⟨m, hn.sameBut sa hCa, fun h' sb => ⟨_, H', f''.go I'' sb, q⟩⟩
theorem comp_list {K : PySem.W.Frag} {a : Addr} {xs : List V} {g : TG} {tc : TT} {te : TE} {σ' : St} {H : Hp} {Q : VK} (Pv : Nat → List V → Hp → Prop) (h0 : Pv 0 [] H) (hl : ∀ i ys H, i ≤ xs.length → Pv i ys H → SqL K H a xs) (hz : ∀ i ys H, i < xs.length → Pv i ys H → ys.length < sizeLine)
    (hs : ∀ i x ys H, xs[i]? = some x → Pv i ys H → g x σ' H fun σ2 H2 => tc σ2 H2 fun b H3 => if b = true then te σ2 H3 fun y H4 => Pv (i + 1) (ys ++ [y]) H4 else Pv (i + 1) ys H3) (hd : ∀ ys H, Pv xs.length ys H → ∀ D, H D = none → Q (.ref D) (upd H D (.lst ys))) :
    CompGo (Itl K a) g tc te σ' Q H := by
  refine ⟨fun i m ys H => m = xs.length - i ∧ i ≤ xs.length ∧ Pv i ys H, ⟨xs.length, by simp, Nat.zero_le _, h0⟩, ?_⟩
  rintro i m ys H ⟨rfl, hi, p⟩
  have q := hl i ys H hi p
  by_cases hlt : i < xs.length
  · refine .inr ⟨⟨xs, xs[i], q, by simp [hlt]⟩, hz i ys H hlt p, Pv (i + 1), fun ys' H' p' => ⟨xs.length - (i + 1), by omega, rfl, hlt, p'⟩, fun x H' y => ?_⟩
    obtain ⟨e, y⟩ := y
    subst e
    exact hs i x ys _ (y xs q) p
  · have e : i = xs.length := by omega
    subst e
    exact .inl ⟨⟨xs, q, Nat.le_refl _⟩, hd ys H p⟩
theorem comp_range {lo : Int} {n : Nat} {g : TG} {tc : TT} {te : TE} {σ' : St} {H : Hp} {Q : VK} (Pv : Nat → List V → Hp → Prop) (h0 : Pv 0 [] H) (hz : ∀ i ys H, i < n → Pv i ys H → ys.length < sizeLine)
    (hs : ∀ i ys H, i < n → Pv i ys H → g (.int (lo + i)) σ' H fun σ2 H2 => tc σ2 H2 fun b H3 => if b = true then te σ2 H3 fun y H4 => Pv (i + 1) (ys ++ [y]) H4 else Pv (i + 1) ys H3) (hd : ∀ ys H, Pv n ys H → ∀ D, H D = none → Q (.ref D) (upd H D (.lst ys))) :
    CompGo (Itr lo n) g tc te σ' Q H := by
  refine ⟨fun i m ys H => m = n - i ∧ i ≤ n ∧ Pv i ys H, ⟨n, by simp, Nat.zero_le _, h0⟩, ?_⟩
  rintro i m ys H ⟨rfl, hi, p⟩
  by_cases hlt : i < n
  · refine .inr ⟨hlt, hz i ys H hlt p, Pv (i + 1), fun ys' H' p' => ⟨n - (i + 1), by omega, rfl, hlt, p'⟩, fun x H' y => ?_⟩
    obtain ⟨e, y⟩ := y
    subst e y
    exact hs i ys _ hlt p
  · have e : i = n := by omega
    subst e
    exact .inl ⟨Nat.le_refl _, hd ys H p⟩
end L2
set_option Elab.async false
set_option linter.all false
set_option maxRecDepth 100000
set_option maxHeartbeats 5000000
namespace L2
open PySem PySem.Spec PyProof.Rows
section
variable {X : Cx}
theorem op_mulB : OpR X (binaryOp .Mult) (rI IntMulOk fun i j => .int (i * j)) := opI fun _ _ _ _ _ _ _ hc q => mul_int q hc
def CDivB (i j : Int) : Prop := 0 < j ∧ j.natAbs.log2 < 9000
theorem op_fdivB : OpR X (binaryOp .FloorDiv) (rI CDivB fun i j => .int (i / j)) := opI fun i j _ _ _ _ _ hc q => by
  have e : i / j = i.fdiv j := (Int.fdiv_eq_ediv_of_nonneg i (Int.le_of_lt hc.1)).symm
  rw [e] at q
  exact floordiv_int (Int.ne_of_gt hc.1) q (.inl (PyProof.noPylong_of_log2 hc.2))
theorem call_isinst : CallR X (.builtin "isinstance") (fun xs H Q => ∃ x T t b, xs = [x, .ty T] ∧ TyOf X.K H x t ∧ PySem.W.kitOne X.K t (.type T) = some b ∧ Q (.bl b) H) := by
  intro pins s σ H xs us Q I r h
  obtain ⟨x, T, t, b, rfl, ty, e, q⟩ := h
  obtain ⟨u, w', rfl, rx, rw'⟩ := vals2 r
  have ew : w' = Value.type T := rw'
  subst ew
  exact isinst_ok I rx ty e fun tk => ⟨.bl b, H, I.tok tk, rfl, q⟩
end
theorem bi_isinstance : bootBuiltins "isinstance" = some (.builtin "isinstance") := by decide +kernel
theorem bi_len : bootBuiltins "len" = some (.builtin "len") := by decide +kernel
theorem bi_sum : bootBuiltins "sum" = some (.builtin "sum") := by decide +kernel
theorem bi_int : bootBuiltins "int" = some (.type "int") := by decide +kernel
theorem bi_bool : bootBuiltins "bool" = some (.type "bool") := by decide +kernel
theorem bi_list : bootBuiltins "list" = some (.type "list") := by decide +kernel
def tMid (t u : TS) : TS := fun D σ H => ∃ M : St → Hp → Prop, t { D with nx := M } σ H ∧ ∀ σ' H', M σ' H' → u D σ' H'
theorem pss_mid {X : Cx} {st : Stmt} {rest : List Stmt} {t u : TS} (h1 : PS X st t) (h2 : PSs X rest u) : PSs X (st :: rest) (tMid t u) := by
  intro pins s σ H D I h
  obtain ⟨M, ht, hu⟩ := h
  refine wpAny_execs_cons (thn (h1 pins s σ H { D with nx := M } I ht) fun f s1 q => ?_)
  cases f with
  | next =>
    obtain ⟨σ', H', I', q⟩ := q
    exact h2 pins s1 σ' H' D I' (hu σ' H' q)
  | ret v => exact q
  | brk => exact q
  | cont => exact q
structure Df (P : Program) (w : World) (K : PySem.W.Frag) (mg : Str → Option Value) (base : Heap) (k : Nat) (x : Str) (ps : List Str) (sp : Sp) : Prop where
  ex : ∃ (f : Addr) (fd : FuncData), FnOk P w K mg base CX0 k f fd ps sp ∧ Binds K fd ps [] ∧ PySem.W.keepIn K (.ref f) = true ∧ mg x = some (.ref f)
theorem Df.mono {P : Program} {w : World} {K : PySem.W.Frag} {mg : Str → Option Value} {base : Heap} {j k : Nat} {x : Str} {ps : List Str} {sp : Sp} (D : Df P w K mg base j x ps sp) (h : j ≤ k) : Df P w K mg base k x ps sp :=
  let ⟨f, fd, F, r⟩ := D.ex; ⟨f, fd, F.mono h, r⟩
section
variable {X : Cx} {k : Nat} {x : Str} {ps : List Str} {sp : Sp} {e : Expr} {es : List Expr} {t : TA} {p pos : Pos}
theorem pe_def (D : Df X.prog X.w X.K X.mg X.base k x ps sp) (hr : Room k X.A) (hg : Gl X x) (ha : PA X (e :: es) t) (hdb : (x == ("__debug__" : Str)) = false := by decide)
    (he : starEach (e :: es) X.env = (false, eval e X.env) :: starEach es X.env := by rfl) (hpl : (backTo pos (starEach es X.env)).any (·.1) = false := by rfl) :
    PE X (.Call (.Name x p) (e :: es) [] pos) (tCall sp [] E0 t) := by
  obtain ⟨f, fd, F, hb, hk, hm⟩ := D.ex
  exact pe_call F hr hg hm hk hb .nil pass0 ha hdb he hpl
end
structure Dn (K : PySem.W.Frag) (mg : Str → Option Value) (x : Str) (st : Stmt) (ps : List Str) : Prop where
  ex : ∃ (f : Addr) (fd : FuncData), Fun K x x st f fd ∧ Binds K fd ps [] ∧ mg x = some (.ref f)
theorem Dn.ok {P : Program} {w : World} {K : PySem.W.Frag} {mg : Str → Option Value} {base : Heap} {x : Str} {st : Stmt} {N ps : List Str} {k : Nat} {sp : Sp} (D : Dn K mg x st ps) (S : FnScope N ps (defScope st)) (len : ∀ vs H Q E, sp vs H Q E → vs.length = ps.length)
    (hbody : ∀ (f : Addr) (cdv : Value) (A : Around) (outer : List Env) (s : Shared) (H : Hp) (vs : List V) (Q : VK) (E : XK), Room k (A.deeper (envOfC x (defScope st) s.heap.objs.size f cdv)) → sp vs H Q E →
      ∃ t, PSs (cxOf CX0 P w K mg base N x (defScope st) f cdv A outer s H E).nox (defBody st) t ∧ t { nx := fun _ H' => Q .non H', rt := Q } (start N vs) H) : Df P w K mg base (k + 1) x ps sp := by
  obtain ⟨f, fd, F, b, m⟩ := D.ex
  exact ⟨f, fd, F.ok S len (fun cdv A outer s H vs Q E hr h => hbody f cdv A outer s H vs Q E hr h), b, F.kp, m⟩
theorem kit_same {K : PySem.W.Frag} (T : String) : PySem.W.kitOne K (.type T) (.type T) = some true := if_pos (by simp)
theorem kit_ib {K : PySem.W.Frag} : PySem.W.kitOne K (.type "int") (.type "bool") = some false := by
  first
  | rfl
  | decide +kernel
  | (show (if (Value.type "int" == Value.type "bool") = true then some true else _) = _; rw [if_neg (by decide)]; rfl)
  | (show (if (Value.type "int" == Value.type "bool") = true then some true else _) = _; rw [if_neg (by decide)]; kernel_rfl)
theorem vint {a b : Int} (h : decide (V.int a = V.int b) = true) : a = b := by
  have := of_decide_eq_true h
  injection this
theorem nvint {a b : Int} (h : ¬ decide (V.int a = V.int b) = true) : ¬ a = b := fun e => h (by rw [e]; simp)
theorem vne {a b : Int} (h : (!decide (V.int a = V.int b)) = true) : ¬ a = b := fun e => by rw [e] at h; simp at h
theorem nvne {a b : Int} (h : ¬ (!decide (V.int a = V.int b)) = true) : a = b := by
  by_cases e : a = b
  · exact e
  · exact absurd (by simp [e]) h
theorem dec {p : Prop} [Decidable p] (h : decide p = true) : p := of_decide_eq_true h
theorem ndec {p : Prop} [Decidable p] (h : ¬ decide p = true) : ¬ p := fun e => h (decide_eq_true e)
theorem same_upd {H H' : Hp} {r : Addr} {o : HO} (h : Same H H') (n : H r = none) : Same H (upd H' r o) := fun b u q => by rw [upd_ne (ne_of_none q n)]; exact h b u q
theorem same_new {H H' : Hp} {r : Addr} {o : HO} (h : Same H H') (n : H' r = none) : Same H (upd H' r o) := same_upd h (h.free n)
theorem size1 {n : Nat} (h : n ≤ 20000) : n < sizeLine := Nat.lt_of_le_of_lt h (by decide)
theorem size2 {n : Nat} (h : n ≤ 20000) : n ≤ sizeLine := Nat.le_of_lt (size1 h)
theorem paired_get {α β : Type} {F : α → β → Prop} : ∀ {l₁ : List α} {l₂ : List β} {i : Nat} {a : α}, Paired F l₁ l₂ → l₁[i]? = some a → ∃ b, l₂[i]? = some b ∧ F a b
  | _, _, 0, _, .cons h _, e => by cases e; exact ⟨_, rfl, h⟩
  | _, _, i + 1, _, .cons _ t, e => paired_get (i := i) t (by rw [List.getElem?_cons_succ] at e; exact e)
theorem cut_map (ns : List Int) (lo hi : Option Int) : ∃ ms : List Int, cutV (ns.map V.int) lo hi = ms.map V.int ∧ ms.length ≤ ns.length := by
  refine ⟨(ns.drop (HT.sIx (ns.map V.int).length 0 lo)).take (HT.sIx (ns.map V.int).length (ns.map V.int).length hi - HT.sIx (ns.map V.int).length 0 lo), ?_, ?_⟩
  · unfold cutV; rw [List.map_take, List.map_drop]
  · rw [List.length_take, List.length_drop]; omega
theorem int_at {ms : List Int} {i : Nat} {x : V} (h : (ms.map V.int)[i]? = some x) : ∃ v, x = .int v ∧ ms[i]? = some v := by
  rw [List.getElem?_map] at h
  cases e : ms[i]? with
  | none => rw [e] at h; cases h
  | some v => rw [e] at h; cases h; exact ⟨v, rfl, rfl⟩
theorem atI_in {ns : List Int} {k : Int} (h0 : 0 ≤ k) (h : k < (ns.length : Int)) : ∃ v : Int, atI (ns.map V.int) k = some (.int v) ∧ ns[k.toNat]? = some v := by
  have hk : k.toNat < ns.length := (by omega)
  have ek : k = ((k.toNat : Nat) : Int) := by omega
  have q : atI (ns.map V.int) ((k.toNat : Nat) : Int) = some (.int ns[k.toNat]) := atI_nat (by rw [List.getElem?_map, List.getElem?_eq_getElem hk] <;> rfl)
  rw [← ek] at q
  exact ⟨ns[k.toNat], q, List.getElem?_eq_getElem hk⟩
theorem mul_small {a b : Int} (h1 : -1000000000 ≤ a) (h2 : a ≤ 1000000000) : IntMulOk a b := IntMulOk.of_left (intBits_le_64 (by omega) (by omega))
theorem div_small {i j : Int} (h0 : 0 < j) (h : j ≤ 1000000000) : CDivB i j := by
  refine ⟨h0, ?_⟩
  have hn : j.natAbs < 2 ^ 30 := by omega
  have := (Nat.log2_lt (show j.natAbs ≠ 0 by omega)).mpr hn
  omega
end L2
set_option Elab.async false
set_option linter.all false
set_option maxRecDepth 100000
set_option maxHeartbeats 5000000
namespace L2
open PySem PySem.Spec PyProof.Rows
section
variable {X : Cx} {pins : List (Addr × Obj)} {σ : St} {H : Hp} {s : Shared} {h' : Heap}
theorem Inv.turnedL {t' : Nat} {its : List Addr} (I : Inv X pins σ H s) (k : ∀ b o, b ∉ its → s.heap.get? b = some o → h'.get? b = some o) (hf : ∀ b ∈ its, FpOk X pins H b) : Inv X pins σ H { s with heap := h', toks := t' } := by
  have nit : ∀ b u, H b = some u → b ∉ its := fun b u e z => by rw [(hf b z).1] at e; cases e
  refine I.step (g' := s.gens) (d' := s.drawn) (ch := its) (fun b hb => ?_) (fun b o _ _ hc e _ => k b o hc e) (fun b o _ _ hc e _ => ⟨o.slots, k b o hc e⟩) (fun _ _ _ _ n => n)
    (fun b o hc e => ⟨o, k b o hc e⟩) (fun _ _ e => e) (fun _ _ _ e => e) (fun b ps e => ⟨#[], by rw [e]; simp⟩) (fun m hm => ?_) (fun b u e => ?_) I.bare
  · obtain ⟨_, f1, _, f3, f4, f5⟩ := hf b hb
    exact ⟨f3, f1, f4, f5⟩
  · obtain ⟨o, es, ep, ho, r⟩ := hm
    exact ⟨o, es, ep, k _ o (fun z => (hf _ z).2.1 rfl) ho, r⟩
  · refine (I.hok b u e).stay (fun c v hc q => k c v ?_ q) (fun _ q => q) fun _ _ q => q
    rcases hc with z | z
    · rw [z]; exact nit b u e
    · exact nit c _ z
theorem Inv.turnedT {t' : Nat} {its : List Addr} {xs : List V} {us : List Value} (I : Inv X pins σ H s) (k : ∀ b o, b ∉ its → s.heap.get? b = some o → h'.get? b = some o) (hf : ∀ b ∈ its, FpOk X pins H b) (hlt : ∀ b ∈ its, b < s.heap.objs.size)
    (ht : h'.get? s.heap.objs.size = some { cls := .type "tuple", data := .seq us.toArray }) (hz : xs.length ≤ sizeLine) (r : Vals xs us) :
    Inv X pins σ (upd H s.heap.objs.size (.tup xs)) { s with heap := h', toks := t' } ∧ ∀ b ∈ its, upd H s.heap.objs.size (.tup xs) b = none := by
  have nf : ∀ b ∈ its, upd H s.heap.objs.size (.tup xs) b = none := fun b hb => by rw [upd_ne (Nat.ne_of_lt (hlt b hb))]; exact (hf b hb).1
  refine ⟨?_, nf⟩
  have I1 : Inv X pins σ (upd H s.heap.objs.size (.tup xs)) { s with heap := s.heap.push { cls := .type "tuple", data := .seq us.toArray }, toks := s.toks } :=
    I.laid (t' := s.toks) (fun b u e => Heap.get?_push_of_some _ e) (Nat.le_refl _) ⟨hz, us, r, ⟨_, Heap.get?_push_size _ rfl, rfl, _, rfl⟩⟩
  have I2 := I1.turnedL (h' := h') (t' := t') (its := its) (fun b o hb e => ?_) (fun b hb => ⟨nf b hb, (hf b hb).2⟩)
  · exact I2
  · have e' : (s.heap.push { cls := .type "tuple", data := .seq us.toArray }).get? b = some o := e
    have hb' : b < s.heap.objs.size + 1 := by have := Heap.lt_size e'; rw [Heap.size_push] at this; exact this
    rcases Nat.lt_or_ge b s.heap.objs.size with z | z
    · cases q : s.heap.get? b with
      | none =>
        exact absurd e' (by
          intro e''
          have : (s.heap.push { cls := .type "tuple", data := .seq us.toArray }).get? b = s.heap.get? b := by
            first | exact Heap.get?_push_lt _ z | exact Heap.get?_push_of_lt _ z | (simp [Heap.get?, Heap.push, Array.getElem?_push, Nat.ne_of_lt z])
          rw [this, q] at e''; cases e'')
      | some o' =>
        have := Heap.get?_push_of_some { cls := .type "tuple", data := .seq us.toArray } q
        rw [e'] at this; cases this
        exact k b o hb q
    · have eb : b = s.heap.objs.size := Nat.le_antisymm (Nat.le_of_lt_succ hb') z
      subst eb
      rw [Heap.get?_push_size _ rfl] at e'
      rw [ht]; exact e'
end
section
variable {X : Cx}
end
section
variable {X : Cx}
end
theorem leaves_tup2 {K : PySem.W.Frag} {n i j : Nat} (h : n ≤ i) (h' : n ≤ j) : Leaves n (gTup K 2 (gCons (gName i) (gCons (gName j) gNil))) := by
  rintro x σ H Q ⟨a, xs, rfl, hq, hl, v, r, rfl, v', r', rfl, rfl, q⟩
  exact ⟨a, _, rfl, hq, hl, v, _, rfl, v', _, rfl, rfl, ⟨by simp, fun k hk => by rw [List.getElem?_set_ne (by omega), List.getElem?_set_ne (by omega)]⟩, q⟩
theorem bi_all : bootBuiltins "all" = some (.builtin "all") := by decide +kernel
theorem bi_min : bootBuiltins "min" = some (.builtin "min") := by decide +kernel
end L2
set_option Elab.async false
set_option linter.all false
set_option maxRecDepth 100000
set_option maxHeartbeats 5000000
namespace L2
open PySem PySem.Spec PyProof.Rows PySem.SeqAt
mutual
inductive RdD (K : PySem.W.Frag) (H : Hp) : V → PyData → Prop
  | non : RdD K H .non .none
  | bl (b : Bool) : RdD K H (.bl b) (.bool b)
  | int (i : Int) : RdD K H (.int i) (.int i)
  | str (x : Str) : RdD K H (.str x) (.str x)
  | lst {a : Addr} {xs : List V} {ds : List PyData} : SqL K H a xs → RdDs K H xs ds → RdD K H (.ref a) (.list ds)
  | tup {a : Addr} {xs : List V} {ds : List PyData} : SqT K H a xs → RdDs K H xs ds → RdD K H (.ref a) (.tuple ds)
inductive RdDs (K : PySem.W.Frag) (H : Hp) : List V → List PyData → Prop
  | nil : RdDs K H [] []
  | cons {x : V} {d : PyData} {xs : List V} {ds : List PyData} : RdD K H x d → RdDs K H xs ds → RdDs K H (x :: xs) (d :: ds)
end
section
variable {X : Cx} {pins : List (Addr × Obj)} {σ : St} {H : Hp} {s : Shared}
mutual
theorem reads_of (I : Inv X pins σ H s) : ∀ {x : V} {d : PyData} {u : Value}, RdD X.K H x d → RelV x u → ∃ as, Reads s.heap u d as
  | _, _, _, .non, r => by cases r; exact ⟨_, .none⟩
  | _, _, _, .bl b, r => by cases r; exact ⟨_, .bool b⟩
  | _, _, _, .int i, ⟨t, e⟩ => by subst e; exact ⟨_, .int i t⟩
  | _, _, _, .str y, ⟨t, e⟩ => by subst e; exact ⟨_, .str y t⟩
  | _, _, _, .lst h hs, r => by
    cases r
    obtain ⟨its, rv, pl, _⟩ := I.list h
    obtain ⟨as, ra⟩ := readsAll_of I hs rv
    obtain ⟨o, ho, hc, n, hd⟩ := pl.isList
    exact ⟨_, .list ho hc hd ra⟩
  | _, _, _, .tup h hs, r => by
    cases r
    obtain ⟨its, rv, pl, _⟩ := I.tuple h
    obtain ⟨as, ra⟩ := readsAll_of I hs rv
    obtain ⟨o, ho, hc, n, hd⟩ := pl
    exact ⟨_, .tuple ho hc hd ra⟩
theorem readsAll_of (I : Inv X pins σ H s) : ∀ {xs : List V} {ds : List PyData} {us : List Value}, RdDs X.K H xs ds → Vals xs us → ∃ as, ReadsAll s.heap us ds as
  | _, _, _, .nil, .nil => ⟨_, .nil⟩
  | _, _, _, .cons h t, .cons r rs => by
    obtain ⟨as, ra⟩ := reads_of I h r
    obtain ⟨bs, rb⟩ := readsAll_of I t rs
    exact ⟨_, .cons ra rb⟩
end
end
def rEqD (K : PySem.W.Frag) : R2 := fun x y H Q => ∃ d e, RdD K H x d ∧ RdD K H y e ∧ shaped d = true ∧ shaped e = true ∧ noMix d e = true ∧ Q (.bl (same d e)) H
theorem hu64 {A : Around} {k : Nat} (hr : Room k A) : A.units + 64 < cLine := by have := hr.un; omega
section
variable {X : Cx}
theorem op_eqD (hu : X.A.units + 64 < cLine) : OpR X (compareOp .Eq) (rEqD X.K) := by
  intro pins s σ H x y v u Q I rx ry h
  obtain ⟨d, e, h1, h2, s1, s2, nm, q⟩ := h
  obtain ⟨as, ra⟩ := reads_of I h1 rx
  obtain ⟨bs, rb⟩ := reads_of I h2 ry
  exact eq_dataH_same ra rb s1 s2 hu nm ⟨.bl _, H, I, rfl, q⟩
end
theorem rd_ints {K : PySem.W.Frag} {H : Hp} : ∀ ns : List Int, RdDs K H (ns.map V.int) (ns.map PyData.int)
  | [] => .nil
  | n :: r => .cons (.int n) (rd_ints r)
theorem rd_lst {K : PySem.W.Frag} {H : Hp} {a : Addr} {ns : List Int} (h : SqL K H a (ns.map V.int)) : RdD K H (.ref a) (.list (ns.map PyData.int)) := .lst h (rd_ints ns)
theorem mix_ints (ns ms : List Int) : noMix (.list (ns.map PyData.int)) (.list (ms.map PyData.int)) = true := by simp only [noMix]; exact PySem.W.noMix_ints ns ms
theorem same_intsL (ns ms : List Int) : same (.list (ns.map PyData.int)) (.list (ms.map PyData.int)) = decide (ns = ms) := by simp only [same]; exact PySem.W.same_ints ns ms
theorem eqL_of {K : PySem.W.Frag} {H : Hp} {a b : Addr} {ns ms : List Int} {Q : VK} (h1 : SqL K H a (ns.map V.int)) (h2 : SqL K H b (ms.map V.int)) (q : Q (.bl (decide (ns = ms))) H) : rEqD K (.ref a) (.ref b) H Q :=
  ⟨_, _, rd_lst h1, rd_lst h2, PySem.W.shaped_ints ns, PySem.W.shaped_ints ms, mix_ints ns ms, by rw [same_intsL]; exact q⟩
theorem vals_toks : ∀ {ns : List Int} {its : List Value}, Vals (ns.map V.int) its → ∃ ts : List (Int × Tok), its = ts.map (fun p => Value.int p.1 p.2) ∧ ts.map (·.1) = ns
  | [], _, .nil => ⟨[], rfl, rfl⟩
  | n :: r, _, .cons ⟨t, e⟩ rs => by
    obtain ⟨ts, e1, e2⟩ := vals_toks rs
    subst e
    exact ⟨(n, t) :: ts, by rw [e1]; rfl, by rw [← e2]; rfl⟩
section
variable {X : Cx}
theorem call_sumL (hc : X.calm = true) : CallR X (.builtin "sum") (fun xs H Q => ∃ (a : Addr) (ns : List Int), xs = [.ref a] ∧ SqL X.K H a (ns.map V.int) ∧ Q (.int ns.sum) H) := by
  intro pins s σ H xs us Q I r h
  obtain ⟨a, ns, rfl, hl, q⟩ := h
  obtain ⟨u, rfl, ru⟩ := vals1 r
  cases ru
  obtain ⟨its, rv, pl, _⟩ := I.list hl
  obtain ⟨ts, e1, e2⟩ := vals_toks rv
  have hi : s.heap.IsList a (intItems ts.toArray) := by
    have e : intItems ts.toArray = its.toArray := by rw [e1]; simp [intItems]
    rw [e]; exact pl.isList
  refine sum_intListG (I.ok.hd hc) hi fun h' tk t' hk => ⟨.int ns.sum, H, I.kept (t' := tk) hk, ⟨t', ?_⟩, q⟩
  rw [preSum_eq, List.take_of_length_le (by simp), ← e2]
end
end L2
set_option linter.all false
namespace Ld
def S : Nat → (Int → Int) → Int
  | 0, _ => 0
  | n + 1, F => S n F + F n
theorem S_congr {F G : Int → Int} : ∀ {n : Nat}, (∀ j : Nat, j < n → F j = G j) → S n F = S n G
  | 0, _ => rfl
  | n + 1, h => by simp only [S]; rw [S_congr fun j hj => h j (by omega), h n (by omega)]
theorem S_zero : ∀ n : Nat, S n (fun _ => 0) = 0
  | 0 => rfl
  | n + 1 => by simp only [S]; rw [S_zero n]; rfl
theorem S_add (F G : Int → Int) : ∀ n : Nat, S n (fun j => F j + G j) = S n F + S n G
  | 0 => rfl
  | n + 1 => by simp only [S]; rw [S_add F G n]; omega
theorem S_swap (F : Int → Int → Int) (m : Nat) : ∀ n : Nat, S n (fun j => S m (fun k => F j k)) = S m (fun k => S n (fun j => F j k))
  | 0 => by simp only [S]; rw [S_zero]
  | n + 1 => by simp only [S]; rw [S_swap F m n, ← S_add]
theorem S_one {c : Int} {G : Int → Int} : ∀ {n : Nat}, 0 ≤ c → S n (fun j => if j = c then G j else 0) = if c < n then G c else 0
  | 0, h => by simp only [S]; rw [if_neg (by omega)]
  | n + 1, h => by
    simp only [S]
    rw [S_one h]
    by_cases e : (n : Int) = c
    · subst e
      rw [if_neg (by omega), if_pos rfl, if_pos (by omega)]; omega
    · rw [if_neg e]
      by_cases q : c < (n : Int)
      · rw [if_pos q, if_pos (by omega)]; omega
      · rw [if_neg q, if_neg (by omega)]; omega
def Per (n : Nat) (F : Int → Int) : Prop := ∀ x y : Int, x % n = y % n → F x = F y
theorem Per.md {n : Nat} {F : Int → Int} (h : Per n F) (x : Int) : F (x % n) = F x := h _ _ (Int.emod_emod_of_dvd x (Int.dvd_refl _))
theorem S_bij {n : Nat} (hn : 0 < n) {F : Int → Int} (hF : Per n F) (φ ψ : Int → Int) (hφ : ∀ x y : Int, x % n = y % n → φ x % n = φ y % n) (hψ : ∀ x y : Int, x % n = y % n → ψ x % n = ψ y % n)
    (h1 : ∀ x, ψ (φ x) % n = x % n) (h2 : ∀ x, φ (ψ x) % n = x % n) : S n (fun j => F (φ j)) = S n F := by
  have np : (0 : Int) < n := by omega
  have e1 : S n (fun j => F (φ j)) = S n (fun j => S n (fun k => if k = φ j % n then F k else 0)) := S_congr fun j hj => by
    rw [S_one (Int.emod_nonneg _ (by omega)), if_pos (Int.emod_lt_of_pos _ np), hF.md]
  rw [e1, S_swap]
  refine S_congr fun k hk => ?_
  have e2 : S n (fun j => if (k : Int) = φ j % n then F k else 0) = S n (fun j => if j = ψ k % n then F k else 0) := S_congr fun j hj => by
    have ej : (j : Int) % n = j := Int.emod_eq_of_lt (by omega) (by omega)
    have ek : (k : Int) % n = k := Int.emod_eq_of_lt (by omega) (by omega)
    have iff : ((k : Int) = φ j % n) ↔ ((j : Int) = ψ k % n) := by
      constructor
      · intro e
        have := hψ k (φ j) (by rw [ek]; exact e)
        rw [this, h1, ej]
      · intro e
        have := hφ j (ψ k) (by rw [ej]; exact e)
        rw [this, h2, ek]
    by_cases q : (k : Int) = φ j % n
    · rw [if_pos q, if_pos (iff.mp q)]
    · rw [if_neg q, if_neg fun z => q (iff.mpr z)]
  rw [e2, S_one (G := fun _ => F k) (Int.emod_nonneg _ (by omega)), if_pos (Int.emod_lt_of_pos _ np)]
theorem emod_add_of {n x y : Int} (c : Int) (h : x % n = y % n) : (x + c) % n = (y + c) % n := by rw [Int.add_emod, h, ← Int.add_emod]
theorem S_shift {n : Nat} (hn : 0 < n) {F : Int → Int} (hF : Per n F) (c : Int) : S n (fun j => F (j + c)) = S n F :=
  S_bij hn hF (fun j => j + c) (fun j => j + -c) (fun x y h => emod_add_of c h) (fun x y h => emod_add_of (-c) h) (fun x => by congr 1; omega) (fun x => by congr 1; omega)
def at' (a : List Int) (x : Int) : Int := a.getD (x % a.length).toNat 0
theorem at_per (a : List Int) : Per a.length (at' a) := fun x y h => by unfold at'; rw [h]
theorem at_per' {a : List Int} {n : Nat} (h : a.length = n) : Per n (at' a) := h ▸ at_per a
theorem hole_lt {n : Nat} (hn : 0 < n) (x : Int) : (x % n).toNat < n := by
  have h1 := Int.emod_nonneg x (show (n : Int) ≠ 0 by omega)
  have h2 := Int.emod_lt_of_pos x (show (0 : Int) < n by omega)
  omega
theorem hole_eq {n : Nat} (hn : 0 < n) (x : Int) : (((x % n).toNat : Nat) : Int) = x % n := Int.toNat_of_nonneg (Int.emod_nonneg x (by omega))
theorem at_get {a : List Int} {x : Int} (h : 0 < a.length) : a[(x % a.length).toNat]? = some (at' a x) := by
  have := hole_lt h x
  unfold at'
  rw [List.getD_eq_getElem?_getD, List.getElem?_eq_getElem this]; rfl
theorem at_nat {a : List Int} {k : Nat} {v : Int} (h : a[k]? = some v) : at' a k = v := by
  have hk : k < a.length := (List.getElem?_eq_some_iff.mp h).1
  unfold at'
  rw [Int.emod_eq_of_lt (by omega) (by omega), Int.toNat_natCast, List.getD_eq_getElem?_getD, h]; rfl
theorem get_at {a : List Int} {k : Nat} (h : k < a.length) : a[k]? = some (at' a k) := by
  rw [List.getElem?_eq_getElem h]; exact congrArg some (at_nat (List.getElem?_eq_getElem h)).symm
theorem ext {a b : List Int} (hl : a.length = b.length) (h : ∀ k : Nat, k < a.length → at' a k = at' b k) : a = b := by
  refine List.ext_getElem? fun k => ?_
  by_cases hk : k < a.length
  · rw [get_at hk, get_at (hl ▸ hk), h k hk]
  · rw [List.getElem?_eq_none (by omega), List.getElem?_eq_none (by omega)]
theorem at_set {a : List Int} {n : Nat} (hl : a.length = n) (hn : 0 < n) (x v y : Int) : at' (a.set (x % n).toNat v) y = if y % n = x % n then v else at' a y := by
  have hx := hole_lt hn x
  have hy := hole_lt hn y
  unfold at'
  rw [List.length_set, hl, List.getD_eq_getElem?_getD, List.getElem?_set]
  by_cases e : y % n = x % n
  · rw [if_pos e, e, if_pos rfl, if_pos (by omega)]; rfl
  · rw [if_neg e, if_neg fun z => e ?_, ← List.getD_eq_getElem?_getD]
    have := congrArg (Nat.cast (R := Int)) z
    rw [hole_eq hn, hole_eq hn] at this
    exact this.symm
theorem at_rep (n : Nat) (x : Int) : at' (List.replicate n 0) x = 0 := by
  unfold at'
  rw [List.getD_eq_getElem?_getD, List.getElem?_replicate]
  split <;> rfl
theorem per_mul {n : Nat} {F G : Int → Int} (h : Per n F) (g : Per n G) : Per n fun j => F j * G j := fun x y e => by show F x * G x = _; rw [h x y e, g x y e]
end Ld
set_option linter.all false
namespace Ld
def nz (a : List Int) (i : Nat) : List (Int × Int) := ((List.range i).map fun j : Nat => ((j : Int), at' a j)).filter fun p => decide (¬ p.2 = 0)
theorem lay0 {m : Nat} (a b : List Int) (i : Nat) {d : List Int} (h : ∀ x, at' d x = S i fun j => at' a j * at' b (x - j)) (hm : 0 < m) :
    ∀ x, at' d x = (S i fun j => at' a j * at' b (x - j)) + (if (x - i) % m < (0 : Nat) then at' a i * at' b (x - i) else 0) := fun x => by
  have := Int.emod_nonneg (x - i) (show (m : Int) ≠ 0 by omega)
  rw [if_neg (by omega), Int.add_zero]; exact h x
theorem lay1 {m : Nat} {a b d : List Int} {i k : Nat} (hd : d.length = m) (hb : b.length = m) (hk : k < m)
    (h : ∀ x, at' d x = (S i fun j => at' a j * at' b (x - j)) + (if (x - i) % m < k then at' a i * at' b (x - i) else 0)) :
    ∀ x, at' (d.set (((i : Int) + k) % m).toNat (at' d ((i : Int) + k) + at' a i * at' b k)) x = (S i fun j => at' a j * at' b (x - j)) + (if (x - i) % m < ((k + 1 : Nat) : Int) then at' a i * at' b (x - i) else 0) := fun x => by
  have hm : 0 < m := by omega
  have km : (k : Int) % m = k := Int.emod_eq_of_lt (by omega) (by omega)
  rw [at_set hd hm]
  by_cases e : x % m = ((i : Int) + k) % m
  · have ek : (x - i) % m = k := by
      rw [Int.sub_emod, e, ← Int.sub_emod, show (i : Int) + k - i = k by omega, km]
    rw [if_pos e, ek, if_pos (by omega), h]
    have e1 : S i (fun j => at' a j * at' b ((i : Int) + k - j)) = S i (fun j => at' a j * at' b (x - j)) := S_congr fun j _ => by
      rw [at_per' hb ((i : Int) + k - j) (x - j) (by rw [Int.sub_emod, ← e, ← Int.sub_emod])]
    rw [e1, show (i : Int) + k - i = k by omega, km, if_neg (by omega), at_per' hb (x - i) k (by rw [ek, km])]
    omega
  · have ek : (x - i) % m ≠ k := fun z => e (by
      have : ((x - i) % m + i) % m = ((k : Int) + i) % m := by rw [z]
      rw [Int.emod_add_emod, show x - i + i = x by omega, Int.add_comm (k : Int)] at this
      exact this)
    rw [if_neg e, h]
    by_cases q : (x - i) % m < k
    · rw [if_pos q, if_pos (by omega)]
    · rw [if_neg q, if_neg (by omega)]
theorem lay2 {m : Nat} {a b d : List Int} {i : Nat} (hm : 0 < m)
    (h : ∀ x, at' d x = (S i fun j => at' a j * at' b (x - j)) + (if (x - i) % m < ((m : Nat) : Int) then at' a i * at' b (x - i) else 0)) : ∀ x, at' d x = S (i + 1) fun j => at' a j * at' b (x - j) := fun x => by
  rw [h, if_pos (Int.emod_lt_of_pos _ (by omega))]; rfl
end Ld
set_option Elab.async false
set_option linter.all false
set_option maxRecDepth 100000
set_option maxHeartbeats 5000000
namespace L2
open PySem PySem.Spec PyProof.Rows PySem.SeqAt
theorem ixN_in {n : Nat} {k : Int} (h0 : 0 ≤ k) (h1 : k < n) : ixN n k = some k.toNat := by unfold ixN; rw [if_pos h0, if_pos h1]
theorem ixN_mod {xs : List V} {n : Nat} (hl : xs.length = n) (hn : 0 < n) (x : Int) : ixN xs.length (x % n) = some (x % n).toNat := by
  rw [hl]; exact ixN_in (Int.emod_nonneg _ (by omega)) (Int.emod_lt_of_pos _ (by omega))
theorem mlen {a : List Int} {n : Nat} (hl : a.length = n) : (a.map V.int).length = n := by rw [List.length_map, hl]
theorem atI_mod {a : List Int} {n : Nat} (hl : a.length = n) (hn : 0 < n) (x : Int) : atI (a.map V.int) (x % n) = some (.int (Ld.at' a x)) := by
  subst hl
  unfold atI
  rw [ixN_mod (mlen rfl) hn]
  show (a.map V.int)[(x % (a.length : Int)).toNat]? = _
  rw [List.getElem?_map, Ld.at_get hn]; rfl
theorem atI_k {a : List Int} {k : Int} (h0 : 0 ≤ k) (hk : k < a.length) : atI (a.map V.int) k = some (.int (Ld.at' a k)) := by
  have := atI_mod (a := a) rfl (by omega) k
  rwa [Int.emod_eq_of_lt h0 hk] at this
theorem rep0 (m : Nat) : (List.replicate ((m : Nat) : Int).toNat [V.int 0]).flatten = (List.replicate m (0 : Int)).map V.int := by
  rw [Int.toNat_natCast]
  induction m with
  | zero => rfl
  | succ k ih => rw [List.replicate_succ, List.flatten_cons, ih, List.replicate_succ, List.map_cons]; rfl
theorem set_int {a : List Int} {j : Nat} {v : Int} : (a.map V.int).set j (.int v) = (a.set j v).map V.int := by rw [List.map_set]
theorem ref_at {as : List Addr} {i : Nat} {x : V} (h : (as.map V.ref)[i]? = some x) : ∃ a, x = .ref a ∧ as[i]? = some a := by
  rw [List.getElem?_map] at h
  cases e : as[i]? with
  | none => rw [e] at h; cases h
  | some v => rw [e] at h; cases h; exact ⟨v, rfl, rfl⟩
theorem for_range0 {n : Nat} {g : TG} {tb : TS} {D : Ends} {σ : St} {H : Hp} (Pv : Nat → St → Hp → Prop) (h0 : Pv 0 σ H)
    (hs : ∀ i σ H, i < n → Pv i σ H → g (.int i) σ H fun σ2 H2 => tb { D with nx := Pv (i + 1), ct := Pv (i + 1), bk := D.nx } σ2 H2) (hd : ∀ σ H, Pv n σ H → D.nx σ H) :
    ∃ W : Nat → Nat → St → Hp → Prop, (∃ m, W 0 m σ H) ∧ ∀ i m σ H, W i m σ H →
      ((Itr 0 n).stop i H ∧ D.nx σ H) ∨ ((Itr 0 n).go i H ∧ ∃ N : St → Hp → Prop, (∀ σ' H', N σ' H' → ∃ m', m' < m ∧ W (i + 1) m' σ' H') ∧ ∀ x H', (Itr 0 n).yld i H x H' → g x σ H' fun σ2 H2 => tb { D with nx := N, ct := N, bk := D.nx } σ2 H2) :=
  for_range Pv h0 (fun i σ H hi p => by rw [Int.zero_add]; exact hs i σ H hi p) hd
theorem comp_range0 {n : Nat} {g : TG} {tc : TT} {te : TE} {σ' : St} {H : Hp} {Q : VK} (Pv : Nat → List V → Hp → Prop) (h0 : Pv 0 [] H) (hz : ∀ i ys H, i < n → Pv i ys H → ys.length < sizeLine)
    (hs : ∀ i ys H, i < n → Pv i ys H → g (.int i) σ' H fun σ2 H2 => tc σ2 H2 fun b H3 => if b = true then te σ2 H3 fun y H4 => Pv (i + 1) (ys ++ [y]) H4 else Pv (i + 1) ys H3) (hd : ∀ ys H, Pv n ys H → ∀ D, H D = none → Q (.ref D) (upd H D (.lst ys))) :
    CompGo (Itr 0 n) g tc te σ' Q H := comp_range Pv h0 hz (fun i ys H hi p => by rw [Int.zero_add]; exact hs i ys H hi p) hd
end L2
set_option Elab.async false
set_option linter.all false
set_option maxRecDepth 100000
set_option maxHeartbeats 5000000
namespace L2
open PySem PySem.Spec PyProof.Rows
def cnt3 (lo hi st : Int) : Nat := if lo < hi then ((hi - lo - 1) / st + 1).toNat else 0
theorem size3 {lo hi st : Int} (h : 0 < st) : Builtin.Range.rangeSize lo hi st = (cnt3 lo hi st : Nat) := by
  unfold Builtin.Range.rangeSize cnt3
  rw [if_pos h]
  split
  · have := Int.ediv_nonneg (show 0 ≤ hi - lo - 1 by omega) (show 0 ≤ st by omega)
    omega
  · rfl
theorem cnt3_le {lo hi st : Int} (h : 0 < st) (h0 : 0 ≤ lo) (h1 : hi ≤ 1000000) : cnt3 lo hi st ≤ 1000000 := by
  unfold cnt3
  split
  · have := Int.ediv_le_self (b := st) (show 0 ≤ hi - lo - 1 by omega)
    omega
  · omega
section
variable {X : Cx} {tg : Expr}
end
theorem inV_ints (p : Int) : ∀ l : List Int, inV (.int p) (l.map V.int) = decide (p ∈ l)
  | [] => by simp [inV]
  | a :: r => by
    have ih := inV_ints p r
    unfold inV at ih ⊢
    rw [List.map_cons, List.any_cons, ih]
    show ((a == p) || decide (p ∈ r)) = _
    by_cases h : a = p
    · simp [h]
    · have h' : ¬ p = a := fun e => h e.symm
      simp [h, h']
theorem flat_ints : ∀ l : List Int, (l.map V.int).all flatV = true
  | [] => rfl
  | a :: r => by rw [List.map_cons, List.all_cons, flat_ints r]; rfl
def TrAt (H : Hp) (r : Addr) (ts : List (Int × Int × Int)) : Prop := ∃ as : List Addr, H r = some (.lst (as.map V.ref)) ∧ Paired (fun a (x : Int × Int × Int) => H a = some (.tup [.int x.1, .int x.2.1, .int x.2.2])) as ts
theorem TrAt.same {H H' : Hp} {r : Addr} {ts : List (Int × Int × Int)} (h : TrAt H r ts) (s : Same H H') : TrAt H' r ts := let ⟨as, h1, h2⟩ := h; ⟨as, s _ _ h1, Paired.mapP h2 fun d x e => s _ _ e⟩
end L2
set_option Elab.async false
set_option linter.all false
set_option maxRecDepth 100000
set_option maxHeartbeats 5000000
namespace L2
open PySem PySem.Spec PyProof.Rows PySem.SeqAt
section
variable {X : Cx}
abbrev bts (i : Int) : Int := ((Builtin.Int.intBits i : Nat) : Int)
def rBits : V → List V → Hp → VK → Prop := fun x vs H Q => ∃ i : Int, x = .int i ∧ vs = [] ∧ Q (.int (bts i)) H
theorem mt_bits : MtM X "int.bit_length" rBits := by
  intro pins s σ H x vs v us Q I rx rv h
  obtain ⟨i, rfl, rfl, q⟩ := h
  cases rv
  obtain ⟨t, rfl⟩ := rx
  exact call_int_bit_length ⟨.int (bts i), H, I.tok _, ⟨_, rfl⟩, q⟩
theorem bts_zero {i : Int} (h : ¬ bts i > 0) : i = 0 := by
  unfold bts Builtin.Int.intBits at h
  by_cases e : i = 0
  · exact e
  · rw [if_neg (by simpa using e)] at h; omega
theorem bts_pos {i : Int} (h : bts i > 0) : ¬ i = 0 := by
  rintro rfl
  exact absurd h (by decide)
theorem bts_le {i : Int} (h : i.natAbs < 2 ^ 64) : bts i ≤ 64 := by
  have := PyProof.Rows.intBits_le h
  unfold bts; omega
theorem vals_of_items : ∀ {l : List Value} {n : Nat} {F : Nat → V}, l.length = n → (∀ (j : Nat) v, l[j]? = some v → RelV (F j) v) → Vals ((List.range n).map F) l
  | [], n, F, hl, _ => by cases hl; exact .nil
  | v :: l, n, F, hl, h => by
    cases hl
    have e : (List.range (v :: l).length).map F = F 0 :: (List.range l.length).map (fun j => F (j + 1)) := by
      rw [List.length_cons, List.range_succ_eq_map, List.map_cons, List.map_map]; rfl
    rw [e]
    exact .cons (h 0 v rfl) (vals_of_items rfl fun j u hj => h (j + 1) u hj)
def rg3 (lo st : Int) (n : Nat) : List Int := (List.range n).map fun (i : Nat) => lo + (i : Int) * st
def tLR3 (ta : TA) : TE := fun σ H Q => ta σ H fun vs H1 => ∃ i j k : Int, vs = [.int i, .int j, .int k] ∧ (0 ≤ i ∧ i ≤ 1000000 ∧ 0 ≤ j ∧ j ≤ 1000000 ∧ 0 < k ∧ k ≤ 1000000) ∧ ∀ l, H1 l = none → Q (.ref l) (upd H1 l (.lst ((rg3 i k (cnt3 i j k)).map V.int)))
theorem pe_lrng3 {a b c : Expr} {ta : TA} {p p2 pos pos2 : Pos} (hcm : X.calm = true) (hgl : Gl X "list") (hml : X.mg "list" = none) (hg : Gl X "range") (hm : X.mg "range" = none) (ha : PA X [a, b, c] ta)
    (he : starEach [a, b, c] X.env = (false, eval a X.env) :: starEach [b, c] X.env := by rfl) (hpl : (backTo pos2 (starEach [b, c] X.env)).any (·.1) = false := by rfl)
    (he2 : starEach [.Call (.Name "range" p2) [a, b, c] [] pos2] X.env = (false, eval (.Call (.Name "range" p2) [a, b, c] [] pos2) X.env) :: starEach [] X.env := by rfl) :
    PE X (.Call (.Name "list" p) [.Call (.Name "range" p2) [a, b, c] [] pos2] [] pos) (tLR3 ta) := by
  intro pins s σ H Q I h
  refine wpAny_Call_Name_kw (ld_blt I hgl hml bi_list ?_)
  refine PyProof.Rows.callWith_type1 ?_ he2 rfl
  rw [he2]
  show wpAny _ _ (spliced ((false, eval (.Call (.Name "range" p2) [a, b, c] [] pos2) X.env) :: backTo pos (starEach [] X.env))) _ _ s
  refine Calls.spliced_cons ?_
  refine Call_ (ld_blt I hg hm boot_range (PyProof.Rows.callWith_type1 (thn (ha pos2 pins s σ H _ I h) fun us s1 ⟨vs, H1, I1, r1, q1⟩ => ?_) he hpl))
  obtain ⟨i, j, k, e, ⟨q1, q2, q3, q4, q5, q6⟩, q⟩ := q1
  subst e
  cases r1 with
  | cons r rr =>
    cases rr with
    | cons r' rr =>
      cases rr with
      | cons r'' rr =>
        cases rr
        obtain ⟨t, rfl⟩ := r
        obtain ⟨t', rfl⟩ := r'
        obtain ⟨t'', rfl⟩ := r''
        refine call_range_3 (by omega) ?_ (.inl (PyProof.noPylong_small (by omega)))
        have c3 := cnt3_le (lo := i) q5 q1 q4
        have sm : Builtin.Range.small i j k = true := by
          unfold Builtin.Range.small
          rw [size3 q5]
          simp only [Builtin.Range.rangeFitsLong, Bool.and_eq_true, Bool.or_eq_true, decide_eq_true_eq, beq_iff_eq, q5, if_true, gt_iff_lt]
          omega
        have I2 : Inv X pins σ H1 { s1 with heap := s1.heap.push { cls := .type "range", data := .fields #[.int i t, .int j t', .int k t''] }, toks := s1.toks } := I1.kept fun b o e => Heap.get?_push_of_some _ e
        refine Calls.spliced_nil ?_
        refine call_list_range (n := cnt3 i j k) (I2.ok.hd hcm) (IsRange.new ..) sm (size3 q5) (by omega) fun h' tk acc' c' kp e items => ?_
        have vals : Vals ((rg3 i k (cnt3 i j k)).map V.int) acc'.toList := by
          unfold rg3
          rw [List.map_map]
          refine vals_of_items (by rw [Array.length_toList]; exact items.1) fun m v hm => ?_
          have := items.2 m v (by rw [← Array.getElem?_toList]; exact hm)
          obtain ⟨t, rfl⟩ := this
          exact ⟨t, rfl⟩
        have hz : ((rg3 i k (cnt3 i j k)).map V.int).length ≤ sizeLine := by
          unfold rg3; rw [List.length_map, List.length_map, List.length_range]; exact Nat.le_trans c3 (by decide)
        refine ⟨.ref _, _, I2.laid (t' := tk) kp (Nat.le_refl _) (show ObjOk X.prog X.w _ h' _ (.lst ((rg3 i k (cnt3 i j k)).map V.int)) from ⟨hz, acc'.toList, c', vals, by simpa using e⟩), rfl, q _ (I2.hok.fresh (Nat.le_refl _))⟩
end
end L2
set_option Elab.async false
set_option linter.all false
set_option maxRecDepth 100000
set_option maxHeartbeats 5000000
namespace L2
open PySem PySem.Spec PyProof.Rows
section
variable {κ : Type} [DecidableEq κ]
def valV (kvs : List (κ × V)) (k : κ) : Option V := (kvs.find? fun kv => decide (kv.1 = k)).map (·.2)
def putK (kvs : List (κ × V)) (k : κ) (v : V) : List (κ × V) :=
  if (kvs.any fun kv => decide (kv.1 = k)) = true then kvs.map (fun kv => if kv.1 = k then (kv.1, v) else kv) else kvs ++ [(k, v)]
def dropK (kvs : List (κ × V)) (k : κ) : List (κ × V) := kvs.filter fun kv => decide (kv.1 ≠ k)

theorem valV_pos {p : κ × V} {r : List (κ × V)} {k : κ} (e : p.1 = k) : valV (p :: r) k = some p.2 := by simp [valV, List.find?_cons, e]
theorem valV_neg {p : κ × V} {r : List (κ × V)} {k : κ} (e : ¬ p.1 = k) : valV (p :: r) k = valV r k := by simp [valV, List.find?_cons, e]
theorem RelO.getD {o : Option V} {u : Option Value} {d : V} {d' : Value} (r : RelO o u) (rd : RelV d d') : RelV (o.getD d) (u.getD d') := by
  cases o with
  | none => cases u with
    | none => exact rd
    | some _ => exact (show False from r).elim
  | some _ => cases u with
    | none => exact (show False from r).elim
    | some _ => exact r

theorem KV.val {kvs : List (κ × V)} {vs : List (κ × Value)} (r : KV kvs vs) (k : κ) : RelO (valV kvs k) (valueAt vs k) := by
  unfold KV at r
  induction r with
  | nil => exact True.intro
  | @cons p q ps qs h t ih =>
    obtain ⟨h1, h2⟩ := h
    by_cases e : p.1 = k
    · have e' : q.1 = k := h1.symm.trans e
      have b : valueAt (q :: qs) k = some q.2 := by simp [valueAt, List.find?_cons, e']
      rw [valV_pos e, b]; exact h2
    · have e' : ¬ q.1 = k := fun z => e (h1.trans z)
      have b : valueAt (q :: qs) k = valueAt qs k := by simp [valueAt, List.find?_cons, e']
      rw [valV_neg e, b]; exact ih
theorem KV.any {kvs : List (κ × V)} {vs : List (κ × Value)} (r : KV kvs vs) (k : κ) : (kvs.any fun kv => decide (kv.1 = k)) = vs.any fun kv => decide (kv.1 = k) := by
  unfold KV at r
  induction r with
  | nil => rfl
  | cons h t ih => rw [List.any_cons, List.any_cons, ih, h.1]
theorem KV.drop {kvs : List (κ × V)} {vs : List (κ × Value)} (r : KV kvs vs) (k : κ) : KV (dropK kvs k) (without vs k) := by
  unfold KV at r ⊢
  unfold dropK without
  induction r with
  | nil => exact .nil
  | @cons p q ps qs h t ih =>
    obtain ⟨h1, h2⟩ := h
    rw [List.filter_cons, List.filter_cons]
    by_cases e : p.1 = k
    · have a : ¬ decide (p.1 ≠ k) = true := by simp [e]
      have b : ¬ decide (q.1 ≠ k) = true := by simp [h1.symm.trans e]
      rw [if_neg a, if_neg b]; exact ih
    · have e' : ¬ q.1 = k := fun z => e (h1.trans z)
      have a : decide (p.1 ≠ k) = true := by simp [e]
      have b : decide (q.1 ≠ k) = true := by simp [e']
      rw [if_pos a, if_pos b]; exact .cons ⟨h1, h2⟩ ih
theorem KV.keys {kvs : List (κ × V)} {vs : List (κ × Value)} (r : KV kvs vs) : kvs.map (·.1) = vs.map (·.1) := by
  unfold KV at r
  induction r with
  | nil => rfl
  | cons h t ih => rw [List.map_cons, List.map_cons, ih, h.1]
theorem KV.length {kvs : List (κ × V)} {vs : List (κ × Value)} (r : KV kvs vs) : kvs.length = vs.length := Paired.length r
end
abbrev KT (H : Hp) : List (List Key × V) → List (List Key × Addr × Value) → Prop := Paired fun p q => p.1 = q.1 ∧ H q.2.1 = some (.tup (p.1.map kV)) ∧ RelV p.2 q.2.2
theorem KT.val {H : Hp} {kvs : List (List Key × V)} {xs : List (List Key × Addr × Value)} (r : KT H kvs xs) (k : List Key) : RelO (valV kvs k) ((atKey xs k).map (·.2)) := by
  induction r with
  | nil => exact True.intro
  | @cons p q ps qs h t ih =>
    obtain ⟨h1, _, h2⟩ := h
    by_cases e : p.1 = k
    · have e' : q.1 = k := h1.symm.trans e
      have b : atKey (q :: qs) k = some q.2 := by simp [atKey, List.find?_cons, e']
      rw [valV_pos e, b]; exact h2
    · have e' : ¬ q.1 = k := fun z => e (h1.trans z)
      have b : atKey (q :: qs) k = atKey qs k := by simp [atKey, List.find?_cons, e']
      rw [valV_neg e, b]; exact ih
theorem KT.keeps {H H' : Hp} {kvs : List (List Key × V)} {xs : List (List Key × Addr × Value)} (r : KT H kvs xs) (ht : ∀ b ys, H b = some (.tup ys) → H' b = some (.tup ys)) : KT H' kvs xs :=
  Paired.mapP r fun _ _ z => ⟨z.1, ht _ _ z.2.1, z.2.2⟩

section
variable {P : Program} {w : World} {H : Hp} {h : Heap} {a : Addr}
end
def DGet (H : Hp) (a : Addr) (y : V) (r : Option V) : Prop :=
  (∃ kvs k, Rd H a (.dK kvs) ∧ y = kV k ∧ r = valV kvs k) ∨ ∃ kvs k b, Rd H a (.dT kvs) ∧ y = .ref b ∧ H b = some (.tup (k.map kV)) ∧ r = valV kvs k
def DPut (H : Hp) (a : Addr) (y v : V) (H' : Hp) : Prop :=
  (∃ kvs k, H a = some (.dK kvs) ∧ y = kV k ∧ kvs.length < sizeLine ∧ H' = upd H a (.dK (putK kvs k v))) ∨
  ∃ kvs k b, H a = some (.dT kvs) ∧ y = .ref b ∧ H b = some (.tup (k.map kV)) ∧ kvs.length < sizeLine ∧ H' = upd H a (.dT (putK kvs k v))
theorem DGet.k {H : Hp} {a : Addr} {kvs : List (Key × V)} {k : Key} (e : H a = some (.dK kvs)) : DGet H a (kV k) (valV kvs k) := .inl ⟨kvs, k, .inl e, rfl, rfl⟩
theorem DGet.t {H : Hp} {a b : Addr} {kvs : List (List Key × V)} {k : List Key} (e : H a = some (.dT kvs)) (eb : H b = some (.tup (k.map kV))) : DGet H a (.ref b) (valV kvs k) := .inr ⟨kvs, k, b, .inl e, rfl, eb, rfl⟩
theorem DPut.k {H : Hp} {a : Addr} {kvs : List (Key × V)} {k : Key} {v : V} (e : H a = some (.dK kvs)) (hl : kvs.length < sizeLine) : DPut H a (kV k) v (upd H a (.dK (putK kvs k v))) := .inl ⟨kvs, k, e, rfl, hl, rfl⟩
theorem DPut.t {H : Hp} {a b : Addr} {kvs : List (List Key × V)} {k : List Key} {v : V} (e : H a = some (.dT kvs)) (eb : H b = some (.tup (k.map kV))) (hl : kvs.length < sizeLine) :
    DPut H a (.ref b) v (upd H a (.dT (putK kvs k v))) := .inr ⟨kvs, k, b, e, rfl, eb, hl, rfl⟩


section
variable {X : Cx} {pins : List (Addr × Obj)} {σ : St} {H : Hp} {s : Shared} {a : Addr} {y v : V} {u r : Value} {o : Option V} {A : Around} {E : Value → Shared → Prop}
end
section
variable {X : Cx} {pins : List (Addr × Obj)} {σ : St} {H : Hp} {s : Shared} {a : Addr} {kvs : List (Key × V)} {k : Key} {u : Value} {A : Around} {E : Value → Shared → Prop}
end
section
variable {X : Cx} {o i e value : Expr} {pos pos' tpos : Pos} {td ty tv : TE}
end
section
variable {X : Cx} {pos : Pos}
end
structure M1 (X : Cx) (o : Expr) (m : Str) (apos : Pos) (e : Expr) (cpos : Pos) : Prop where
  base : attributeBase o m X.env (eval o X.env) = eval o X.env
  few : ((backTo cpos (starEach [e] X.env)).all (fun x => !x.1) && (backToKw cpos (keywordEach [] X.env)).all (fun x => x.1.isSome)
    && decide (([e] : List Expr).length + ([] : List Keyword).length + (if ([] : List Keyword).isEmpty then 0 else 1) < 30)) = true
  line : (apos.endLine == cpos.line) = true
  trees : backTo cpos (starEach [e] X.env) = [(false, eval e X.env)]
section
variable {X : Cx} {pins : List (Addr × Obj)} {σ : St} {H : Hp} {s : Shared} {a : Addr} {y d : V} {u r : Value} {o : Option V} {A : Around} {E : Value → Shared → Prop}
end
section
variable {X : Cx} {o e f : Expr} {apos cpos : Pos} {td ty tx : TE}
end
section
variable {X : Cx} {pins : List (Addr × Obj)} {σ : St} {H : Hp} {s : Shared} {a : Addr} {kvs : List (Key × V)} {A : Around} {E : Value → Shared → Prop}
end
section
variable {X : Cx} {pins : List (Addr × Obj)} {σ : St} {H : Hp} {s : Shared} {a : Addr} {y : V} {u : Value} {A : Around} {E : Value → Shared → Prop}
end
end L2
namespace L2
open PySem PySem.Spec PyProof.Rows
section
variable {κ : Type} [DecidableEq κ]
end
end L2
set_option Elab.async false
set_option linter.all false
set_option maxRecDepth 100000
set_option maxHeartbeats 5000000
namespace L2
open PySem PySem.Spec PyProof.Rows PySem.SeqAt
section
variable {X : Cx}
end
abbrev kI (i : Int) : Key := .inl i
abbrev k2 (p h : Int) : List Key := [.inl p, .inl h]
theorem DGet.p {H : Hp} {a b : Addr} {kvs : List (List Key × V)} {p h : Int} (e : H a = some (.dT kvs)) (eb : H b = some (.tup [.int p, .int h])) : DGet H a (.ref b) (valV kvs (k2 p h)) := DGet.t (k := k2 p h) e eb
theorem DPut.p {H : Hp} {a b : Addr} {kvs : List (List Key × V)} {p h : Int} {v : V} (e : H a = some (.dT kvs)) (eb : H b = some (.tup [.int p, .int h])) (hl : kvs.length < sizeLine) : DPut H a (.ref b) v (upd H a (.dT (putK kvs (k2 p h) v))) := DPut.t (k := k2 p h) e eb hl
theorem DGet.i {H : Hp} {a : Addr} {kvs : List (Key × V)} {i : Int} (e : H a = some (.dK kvs)) : DGet H a (.int i) (valV kvs (kI i)) := DGet.k (k := kI i) e
theorem DPut.i {H : Hp} {a : Addr} {kvs : List (Key × V)} {i : Int} {v : V} (e : H a = some (.dK kvs)) (hl : kvs.length < sizeLine) : DPut H a (.int i) v (upd H a (.dK (putK kvs (kI i) v))) := DPut.k (k := kI i) e hl
end L2
set_option Elab.async false
set_option linter.all false
set_option maxRecDepth 100000
set_option maxHeartbeats 5000000
namespace L2
open PySem PySem.Spec PyProof.Rows PySem.SeqAt
theorem vals_bl : ∀ {bs : List Bool} {its : List Value}, Vals (bs.map V.bl) its → its = bs.map Value.bool
  | [], _, .nil => rfl
  | b :: r, _, .cons e rs => by
    have e' : _ = Value.bool b := e
    rw [List.map_cons, ← vals_bl rs, ← e']
theorem range_all' (bs : List Bool) : ((List.range bs.length).all fun i => (bs[i]?).getD true) = bs.all id := by
  rw [Bool.eq_iff_iff, List.all_eq_true, List.all_eq_true]
  constructor
  · intro h b hb
    obtain ⟨i, hi, e⟩ := List.getElem_of_mem hb
    have := h i (List.mem_range.mpr hi)
    simp only [List.getElem?_eq_getElem hi, Option.getD_some, e] at this
    exact this
  · intro h i hi
    have hi' := List.mem_range.mp hi
    simp only [List.getElem?_eq_getElem hi', Option.getD_some]
    exact h _ (List.getElem_mem hi')
theorem kept_it {s : Shared} {h' : Heap} {o : Obj} (hk : ∀ b x, b ∉ [s.heap.objs.size] → (s.heap.push o).get? b = some x → h'.get? b = some x) : ∀ b x, s.heap.get? b = some x → h'.get? b = some x :=
  fun b x e => hk b x (fun hm => by rw [List.mem_singleton.mp hm] at e; exact Nat.lt_irrefl _ (Heap.lt_size e)) (Heap.get?_push_of_some _ e)
section
variable {X : Cx}
theorem call_allB (hc : X.calm = true) : CallR X (.builtin "all") (fun xs H Q => ∃ (a : Addr) (bs : List Bool), xs = [.ref a] ∧ SqL X.K H a (bs.map V.bl) ∧ Q (.bl (bs.all id)) H) := by
  intro pins s σ H xs us Q I r h
  obtain ⟨a, bs, rfl, hl, q⟩ := h
  obtain ⟨u, rfl, ru⟩ := vals1 r
  cases ru
  obtain ⟨its, rv, pl, _⟩ := I.list hl
  have ei := vals_bl rv
  subst ei
  have hL := pl.isList
  have hlt : a < s.heap.objs.size := by obtain ⟨_, e, _⟩ := hL; exact Heap.lt_size e
  refine call_all_walk (wpAny_pyIter_list hL ?_)
  refine ⟨s.heap.objs.size, [s.heap.objs.size, a], [s.heap.objs.size], (bs.map Value.bool).toArray.size, _, _, fun i => (bs[i]?).getD true, rfl, Walks.list (A := X.A.in1) (I.ok.hd hc) _ a (Nat.ne_of_lt hlt) (bs.map Value.bool).toArray,
    ⟨⟨_, Heap.get?_push_size _ rfl, rfl, rfl⟩, hL.push _⟩, fun i v s' Q' E' hP hQ => ?_, fun h' tk hk => ?_⟩
  · have hP' : (bs.map Value.bool)[i]? = some v := by simpa using hP
    rw [List.getElem?_map] at hP'
    cases e : bs[i]? with
    | none => rw [e] at hP'; cases hP'
    | some b =>
      rw [e] at hP'
      cases hP'
      simp only [e, Option.getD_some] at hQ
      exact wpAny_truthy_bool hQ
  · have e : ((List.range (bs.map Value.bool).toArray.size).all fun i => (bs[i]?).getD true) = bs.all id := by
      rw [List.size_toArray, List.length_map]; exact range_all' bs
    rw [e]
    exact ⟨.bl _, H, I.kept (t' := tk) (kept_it hk), rfl, q⟩
end
end L2
set_option Elab.async false
set_option linter.all false
set_option maxRecDepth 100000
set_option maxHeartbeats 5000000
namespace L2
open PySem PySem.Spec PyProof.Rows PySem.SeqAt
theorem sizeN (n : Nat) : Builtin.Range.rangeSize 0 (n : Int) 1 = (n : Nat) := by
  unfold Builtin.Range.rangeSize
  rw [if_pos (by decide)]
  split <;> omega
theorem smallN {i k : Int} {n : Nat} (hi : i = 0) (hk : k = 1) (hn : n ≤ 1000000) : Builtin.Range.small i (n : Int) k = true := by
  have q5 : 0 < k := by omega
  have c : Builtin.Range.rangeSize i (n : Int) k = (n : Nat) := by rw [hi, hk]; exact sizeN n
  unfold Builtin.Range.small
  rw [c]
  simp only [Builtin.Range.rangeFitsLong, Bool.and_eq_true, Bool.or_eq_true, decide_eq_true_eq, beq_iff_eq, q5, if_true, gt_iff_lt]
  omega
section
variable {X : Cx}
def tLR1 (ta : TA) : TE := fun σ H Q => ta σ H fun vs H1 => ∃ n : Nat, vs = [.int n] ∧ n ≤ 1000000 ∧ ∀ l, H1 l = none → Q (.ref l) (upd H1 l (.lst (((List.range n).map fun (i : Nat) => (i : Int)).map V.int)))
theorem pe_lrng1 {a : Expr} {ta : TA} {p p2 pos pos2 : Pos} (hcm : X.calm = true) (hgl : Gl X "list") (hml : X.mg "list" = none) (hg : Gl X "range") (hm : X.mg "range" = none) (ha : PA X [a] ta)
    (hs : starEach [a] X.env = [(false, eval a X.env)] := by rfl)
    (he2 : starEach [.Call (.Name "range" p2) [a] [] pos2] X.env = (false, eval (.Call (.Name "range" p2) [a] [] pos2) X.env) :: starEach [] X.env := by rfl) :
    PE X (.Call (.Name "list" p) [.Call (.Name "range" p2) [a] [] pos2] [] pos) (tLR1 ta) := by
  intro pins s σ H Q I h
  refine wpAny_Call_Name_kw (ld_blt I hgl hml bi_list ?_)
  refine PyProof.Rows.callWith_type1 ?_ he2 rfl
  rw [he2]
  show wpAny _ _ (spliced ((false, eval (.Call (.Name "range" p2) [a] [] pos2) X.env) :: backTo pos (starEach [] X.env))) _ _ s
  refine Calls.spliced_cons ?_
  refine Call_ (ld_blt I hg hm boot_range (PyProof.Rows.callWith_type1 (thn (ha pos2 pins s σ H _ I h) fun us s1 ⟨vs, H1, I1, r1, q1⟩ => ?_) hs rfl))
  obtain ⟨n, e, hn, q⟩ := q1
  subst e
  cases r1 with
  | cons r rr =>
    cases rr
    obtain ⟨t, rfl⟩ := r
    refine call_range_1 ?_
    have sm : Builtin.Range.small 0 (n : Int) 1 = true := smallN rfl rfl hn
    refine Calls.spliced_nil ?_
    refine call_list_range (n := n) ?_ (IsRange.new ..) sm (sizeN n) (by omega) fun h' tk acc' c' kp e items => ?_
    · exact (I1.kept (t' := s1.toks) (fun b o e => e)).ok.hd hcm
    have vals : Vals (((List.range n).map fun (i : Nat) => (i : Int)).map V.int) acc'.toList := by
      rw [List.map_map]
      refine vals_of_items (by rw [Array.length_toList]; exact items.1) fun m v hm => ?_
      have := items.2 m v (by rw [← Array.getElem?_toList]; exact hm)
      obtain ⟨t, rfl⟩ := this
      exact ⟨t, by simp⟩
    have hz : (((List.range n).map fun (i : Nat) => (i : Int)).map V.int).length ≤ sizeLine := by
      rw [List.length_map, List.length_map, List.length_range]; exact Nat.le_trans hn (by decide)
    have I2 : Inv X pins σ H1 { s1 with heap := s1.heap.push { cls := .type "range", data := .fields #[.int 0 s1.toks, .int (n : Int) t, .int 1 (s1.toks + 1)] }, toks := s1.toks + 1 + 1 } := I1.kept fun b o e => Heap.get?_push_of_some _ e
    refine ⟨.ref _, _, I2.laid (t' := tk) kp (Nat.le_refl _) (show ObjOk X.prog X.w _ h' _ (.lst (((List.range n).map fun (i : Nat) => (i : Int)).map V.int)) from ⟨hz, acc'.toList, c', vals, by simpa using e⟩), rfl, q _ (I2.hok.fresh (Nat.le_refl _))⟩
end
end L2
set_option Elab.async false
set_option linter.all false
set_option maxRecDepth 100000
set_option maxHeartbeats 5000000
namespace L2
open PySem PySem.Spec PyProof.Rows PySem.SeqAt
end L2
namespace L2
open PySem PySem.Spec PyProof.Rows PySem.SeqAt
end L2
set_option Elab.async false
set_option linter.all false
set_option maxRecDepth 100000
set_option maxHeartbeats 5000000
namespace L2
open PySem PySem.Spec PyProof.Rows PySem.SeqAt
theorem iteT' {c A B : Prop} [Decidable c] (h : c) (a : A) : if c then A else B := by rw [if_pos h]; exact a
theorem iteF' {c A B : Prop} [Decidable c] (h : ¬ c) (b : B) : if c then A else B := by rw [if_neg h]; exact b
theorem cut_from (ns : List Int) (k : Nat) : cutV (ns.map V.int) (some (k : Int)) none = (ns.drop k).map V.int := by
  unfold cutV
  rw [HT.sIx_nat, HT.sIx_none, List.length_map, ← List.map_drop, ← List.map_take]
  congr 1
  by_cases h : k ≤ ns.length
  · rw [Nat.min_eq_left h, List.take_of_length_le (by rw [List.length_drop]; omega)]
  · rw [Nat.min_eq_right (by omega), List.drop_of_length_le (Nat.le_refl _), List.drop_of_length_le (by omega)]; simp
end L2
set_option Elab.async false
set_option linter.all false
set_option maxRecDepth 100000
set_option maxHeartbeats 5000000
namespace L2
open PySem PySem.Spec PyProof.Rows
theorem zt_typeCall (a b c : Value) : checkTypeCall "zip" ⟨[a, b, c], []⟩ = pure () := by kernel_rfl
theorem zt_newCall (a b c : Value) : checkBuiltinCall "zip.__new__" ⟨[.type "zip", a, b, c], []⟩ = pure () := by kernel_rfl
theorem zt_init (a b c d : Value) : argsOk "object.__init__" ⟨[a, b, c, d], []⟩ := by
  unfold argsOk; rw [PySem.signature?_of (id := "object.__init__") (n := ['_', '_', 't', 'i', 'n', 'i', '_', '_']) (o := ['t', 'c', 'e', 'j', 'b', 'o']) (by kernel_rfl) F.owner_object]; kernel_rfl
abbrev IsTrip (h : Heap) (T : Addr) (a b c : Value) : Prop := h.get? T = some { cls := .type "tuple", data := .seq #[a, b, c] }
structure ZtAp (z TI TO i1 i2 i3 l1 l2 l3 : Addr) : Prop where
  dI : TI ≠ z ∧ TI ≠ TO ∧ TI ≠ i1 ∧ TI ≠ i2 ∧ TI ≠ i3
  dO : TO ≠ z ∧ TO ≠ i1 ∧ TO ≠ i2 ∧ TO ≠ i3
  d1 : i1 ≠ z ∧ i1 ≠ TO ∧ i1 ≠ i2 ∧ i1 ≠ i3
  d2 : i2 ≠ z ∧ i2 ≠ TO ∧ i2 ≠ i1 ∧ i2 ≠ i3
  d3 : i3 ≠ z ∧ i3 ≠ TO ∧ i3 ≠ i1 ∧ i3 ≠ i2
  m1 : l1 ≠ z ∧ l1 ≠ TO ∧ l1 ≠ i1 ∧ l1 ≠ i2 ∧ l1 ≠ i3
  m2 : l2 ≠ z ∧ l2 ≠ TO ∧ l2 ≠ i1 ∧ l2 ≠ i2 ∧ l2 ≠ i3
  m3 : l3 ≠ z ∧ l3 ≠ TO ∧ l3 ≠ i1 ∧ l3 ≠ i2 ∧ l3 ≠ i3
section
variable {prog : Program} {w : World} {A : Around} {E : Value → Shared → Prop} {s : Shared}
theorem zt_upd {T : Addr} {a b c x : Value} {k : Nat} {Q : Unit → Shared → Prop} (hT : IsTrip s.heap T a b c) (h : ∀ h', h'.get? T = some { cls := .type "tuple", data := .seq ((#[a, b, c] : Array Value).setIfInBounds k x) } → Heap.SameBut T s.heap h' → Q () { s with heap := h' }) :
    wpAny (model prog w) A (updateSeq T (·.setIfInBounds k x)) Q E s := by
  refine wpAny_updateSeq hT rfl (h _ ?_ (Heap.SameBut.update ..)); rw [Heap.get?_update_self _ hT rfl]; simp [Obj.mapSeq]
theorem zt_item {z TI TO i1 i2 i3 l1 l2 l3 : Addr} {k1 k2 k3 : Nat} {xs ys zs : Array Value} {x y v a b c : Value} {Q : Value → Shared → Prop} (D : ZtAp z TI TO i1 i2 i3 l1 l2 l3)
    (hz : IsZip s.heap z TI TO .none) (hTI : IsTrip s.heap TI (.ref i1) (.ref i2) (.ref i3)) (hTO : IsTrip s.heap TO a b c)
    (h1 : s.heap.IsListIter i1 l1 k1) (h2 : s.heap.IsListIter i2 l2 k2) (h3 : s.heap.IsListIter i3 l3 k3) (hl1 : s.heap.IsList l1 xs) (hl2 : s.heap.IsList l2 ys) (hl3 : s.heap.IsList l3 zs) (hx : xs[k1]? = some x) (hy : ys[k2]? = some y) (hv : zs[k3]? = some v)
    (hQ : ∀ h', IsZip h' z TI TO (rawInt s.heap.objs.size) → IsTrip h' TO x y v → h'.IsListIter i1 l1 (k1 + 1) → h'.IsListIter i2 l2 (k2 + 1) → h'.IsListIter i3 l3 (k3 + 1) → IsTrip h' s.heap.objs.size x y v →
      (∀ c o, c ≠ z → c ≠ TO → c ≠ i1 → c ≠ i2 → c ≠ i3 → s.heap.get? c = some o → h'.get? c = some o) → Q (.ref s.heap.objs.size) { s with heap := h' }) :
    wpAny (model prog w) A (Builtin.«zip.__next__» ⟨[.ref z], []⟩) (fun fin s' => ∃ v, fin = .done (.ret v) ∧ Q v s') E s := by
  show wpAny _ _ (field (.ref z) 2 >>= _) _ _ _; refine wpAny_bind (wpAny_field hz rfl (x := .bool false) rfl ?_)
  show wpAny _ _ (field (.ref z) 3 >>= _) _ _ _; refine wpAny_bind (wpAny_field hz rfl (x := .ref TI) rfl ?_)
  refine wpAny_bind (wpAny_seqItems hTI rfl ?_); show wpAny _ _ (Builtin.SmallTypes.ownedTupleIsFree (.ref z) >>= _) _ _ _
  refine wpAny_bind ?_; unfold Builtin.SmallTypes.ownedTupleIsFree
  refine wpAny_bind (wpAny_field hz rfl (x := .none) rfl (wpAny_pure ?_)); simp only [if_true]
  refine wpAny_bind (wpAny_rule ?_); refine wpAny_bind (wpAny_field hz rfl (x := .ref TO) rfl ?_)
  refine wpAny_bind (wpAny_setField_rec hz (by simp) fun g1 hz1 hs1 => ?_); replace hz1 : IsZip g1 z TI TO .ellipsis := hz1
  have u1 : ∀ c o, c ≠ z → s.heap.get? c = some o → g1.get? c = some o := fun c o n e => hs1.extBut c o n e
  refine wpAny_bind ?_; simp only [List.zipIdx_cons, List.zipIdx_nil, List.forIn_cons, List.forIn_nil]
  refine wpAny_bind (wpAny_bind (wpAny_onRaise ?_)); show wpAny _ _ (Builtin.SmallTypes.nextOf (.ref i1) >>= _) _ _ _
  refine wpAny_bind (wpAny_nextOf_list_item (h1.at fun o e => u1 _ o D.d1.1 e) (hl1.at fun o e => u1 _ o D.m1.1 e) hx fun g2 h12 hs2 => wpAny_pure ?_)
  have u2 : ∀ c o, c ≠ z → c ≠ i1 → s.heap.get? c = some o → g2.get? c = some o := fun c o n m e => hs2.extBut c o m (u1 c o n e)
  have hTO2 : IsTrip g2 TO a b c := u2 _ _ D.dO.1 D.dO.2.1 hTO
  refine wpAny_bind (wpAny_seqItems hTO2 rfl ?_); refine wpAny_bind (zt_upd hTO2 fun g3 hTO3 hs3 => ?_); replace hTO3 : IsTrip g3 TO x b c := hTO3
  have u3 : ∀ c o, c ≠ z → c ≠ i1 → c ≠ TO → s.heap.get? c = some o → g3.get? c = some o := fun c o n m q e => hs3.extBut c o q (u2 c o n m e)
  refine wpAny_bind (wpAny_letGo (wpAny_pure ?_))
  refine wpAny_bind (wpAny_bind (wpAny_onRaise ?_)); show wpAny _ _ (Builtin.SmallTypes.nextOf (.ref i2) >>= _) _ _ _
  refine wpAny_bind (wpAny_nextOf_list_item (h2.at fun o e => u3 _ o D.d2.1 D.d2.2.2.1 D.d2.2.1 e) (hl2.at fun o e => u3 _ o D.m2.1 D.m2.2.2.1 D.m2.2.1 e) hy fun g4 h24 hs4 => wpAny_pure ?_)
  have u4 : ∀ c o, c ≠ z → c ≠ i1 → c ≠ TO → c ≠ i2 → s.heap.get? c = some o → g4.get? c = some o := fun c o n m q r e => hs4.extBut c o r (u3 c o n m q e)
  have hTO4 : IsTrip g4 TO x b c := hs4.extBut _ _ D.dO.2.2.1 hTO3
  refine wpAny_bind (wpAny_seqItems hTO4 rfl ?_); refine wpAny_bind (zt_upd hTO4 fun g5 hTO5 hs5 => ?_); replace hTO5 : IsTrip g5 TO x y c := hTO5
  have u5 : ∀ c o, c ≠ z → c ≠ i1 → c ≠ TO → c ≠ i2 → s.heap.get? c = some o → g5.get? c = some o := fun c o n m q r e => hs5.extBut c o q (u4 c o n m q r e)
  refine wpAny_bind (wpAny_letGo (wpAny_pure ?_))
  refine wpAny_bind (wpAny_bind (wpAny_onRaise ?_)); show wpAny _ _ (Builtin.SmallTypes.nextOf (.ref i3) >>= _) _ _ _
  refine wpAny_bind (wpAny_nextOf_list_item (h3.at fun o e => u5 _ o D.d3.1 D.d3.2.2.1 D.d3.2.1 D.d3.2.2.2 e) (hl3.at fun o e => u5 _ o D.m3.1 D.m3.2.2.1 D.m3.2.1 D.m3.2.2.2.1 e) hv fun g6 h36 hs6 => wpAny_pure ?_)
  have u6 : ∀ c o, c ≠ z → c ≠ i1 → c ≠ TO → c ≠ i2 → c ≠ i3 → s.heap.get? c = some o → g6.get? c = some o := fun c o n m q r t e => hs6.extBut c o t (u5 c o n m q r e)
  have hTO6 : IsTrip g6 TO x y c := hs6.extBut _ _ D.dO.2.2.2 hTO5
  refine wpAny_bind (wpAny_seqItems hTO6 rfl ?_); refine wpAny_bind (zt_upd hTO6 fun g7 hTO7 hs7 => ?_); replace hTO7 : IsTrip g7 TO x y v := hTO7
  have u7 : ∀ c o, c ≠ z → c ≠ i1 → c ≠ TO → c ≠ i2 → c ≠ i3 → s.heap.get? c = some o → g7.get? c = some o := fun c o n m q r t e => hs7.extBut c o q (u6 c o n m q r t e)
  refine wpAny_bind (wpAny_letGo (wpAny_pure (wpAny_pure ?_))); refine wpAny_bind (wpAny_seqItems hTO7 rfl ?_); refine wpAny_bind (wpAny_newTuple ?_)
  have hsz : g7.objs.size = s.heap.objs.size := by rw [hs7.1, hs6.1, hs5.1, hs4.1, hs3.1, hs2.1, hs1.1]
  have hz7 : IsZip g7 z TI TO .ellipsis := hs7.extBut _ _ D.dO.1.symm (hs6.extBut _ _ D.d3.1.symm (hs5.extBut _ _ D.dO.1.symm (hs4.extBut _ _ D.d2.1.symm (hs3.extBut _ _ D.dO.1.symm (hs2.extBut _ _ D.d1.1.symm hz1)))))
  have h17 : g7.IsListIter i1 l1 (k1 + 1) := h12.at fun o e => hs7.extBut _ o D.d1.2.1 (hs6.extBut _ o D.d1.2.2.2 (hs5.extBut _ o D.d1.2.1 (hs4.extBut _ o D.d1.2.2.1 (hs3.extBut _ o D.d1.2.1 e))))
  have h27 : g7.IsListIter i2 l2 (k2 + 1) := h24.at fun o e => hs7.extBut _ o D.d2.2.1 (hs6.extBut _ o D.d2.2.2.2 (hs5.extBut _ o D.d2.2.1 e))
  have h37 : g7.IsListIter i3 l3 (k3 + 1) := h36.at fun o e => hs7.extBut _ o D.d3.2.1 e
  have zlt : z < g7.objs.size := Heap.lt_size hz7
  show wpAny _ _ (Builtin.SmallTypes.ownedTupleHandOut (.ref z) (.ref g7.objs.size) >>= _) _ _ _
  refine wpAny_bind ?_; unfold Builtin.SmallTypes.ownedTupleHandOut
  have hz8 : IsZip (g7.push { cls := .type "tuple", data := .seq #[x, y, v] }) z TI TO .ellipsis := Heap.get?_push_of_some _ hz7
  refine wpAny_bind (wpAny_setField_rec hz8 (by simp) fun g8 hz9 hs8 => ?_); replace hz9 : IsZip g8 z TI TO (rawInt g7.objs.size) := hz9
  refine wpAny_setField_rec hz9 (by simp) fun g9 hzA hs9 => ?_; replace hzA : IsZip g9 z TI TO (rawInt g7.objs.size) := hzA
  have up : ∀ c o, c ≠ z → g7.get? c = some o → g9.get? c = some o := fun c o c1 e => hs9.extBut _ _ c1 (hs8.extBut _ _ c1 (Heap.get?_push_of_some _ e))
  have hT9 : IsTrip g9 g7.objs.size x y v := hs9.extBut _ _ (Nat.ne_of_gt zlt) (hs8.extBut _ _ (Nat.ne_of_gt zlt) (Heap.get?_push_size _ rfl))
  rw [hsz] at hzA hT9
  refine wpAny_pure ⟨_, rfl, ?_⟩; show Q (.ref g7.objs.size) _; rw [hsz]
  exact hQ g9 hzA (up _ _ D.dO.1 hTO7) (h17.at fun o e => up _ o D.d1.1 e) (h27.at fun o e => up _ o D.d2.1 e) (h37.at fun o e => up _ o D.d3.1 e) hT9 fun c o c1 c2 c3 c4 c5 e => up c o c1 (u7 c o c1 c3 c2 c4 c5 e)
theorem zt_end {z TI TO i1 i2 i3 l1 : Addr} {k1 : Nat} {xs : Array Value} {Q : PySem.Fin → Shared → Prop} (hh : A.handled = none) (n1 : i1 ≠ z) (n2 : l1 ≠ z)
    (hz : IsZip s.heap z TI TO .none) (hTI : IsTrip s.heap TI (.ref i1) (.ref i2) (.ref i3)) (h1 : s.heap.IsListIter i1 l1 k1) (hl1 : s.heap.IsList l1 xs) (hx : xs[k1]? = none)
    (hE : ∀ h' e, (∀ c o, c ≠ z → c ≠ i1 → s.heap.get? c = some o → h'.get? c = some o) → (∃ o, h'.get? e = some o ∧ o.cls = .type "StopIteration") → E (.ref e) { s with heap := h' }) :
    wpAny (model prog w) A (Builtin.«zip.__next__» ⟨[.ref z], []⟩) Q E s := by
  show wpAny _ _ (field (.ref z) 2 >>= _) _ _ _; refine wpAny_bind (wpAny_field hz rfl (x := .bool false) rfl ?_)
  show wpAny _ _ (field (.ref z) 3 >>= _) _ _ _; refine wpAny_bind (wpAny_field hz rfl (x := .ref TI) rfl ?_)
  refine wpAny_bind (wpAny_seqItems hTI rfl ?_); show wpAny _ _ (Builtin.SmallTypes.ownedTupleIsFree (.ref z) >>= _) _ _ _
  refine wpAny_bind ?_; unfold Builtin.SmallTypes.ownedTupleIsFree
  refine wpAny_bind (wpAny_field hz rfl (x := .none) rfl (wpAny_pure ?_)); simp only [if_true]
  refine wpAny_bind (wpAny_rule ?_); refine wpAny_bind (wpAny_field hz rfl (x := .ref TO) rfl ?_)
  refine wpAny_bind (wpAny_setField_rec hz (by simp) fun g1 hz1 hs1 => ?_); replace hz1 : IsZip g1 z TI TO .ellipsis := hz1
  refine wpAny_bind ?_; simp only [List.zipIdx_cons, List.zipIdx_nil, List.forIn_cons, List.forIn_nil]
  refine wpAny_bind (wpAny_bind (wpAny_onRaise ?_)); show wpAny _ _ (Builtin.SmallTypes.nextOf (.ref i1) >>= _) _ _ _
  refine wpAny_bind (wpAny_nextOf_list_end hh (h1.extBut hs1.extBut n1) (hl1.extBut hs1.extBut n2) hx fun g2 e hs2 he => ?_)
  obtain ⟨oe, hoe, hce⟩ := he
  have hz2 : IsZip g2 z TI TO .ellipsis := hs2 _ _ n1.symm hz1
  have hez : e ≠ z := fun q => by subst q; rw [hz2] at hoe; cases hoe; simp at hce
  refine wpAny_setField_rec hz2 (by simp) fun g3 _ hs3 => hE g3 e (fun c o c1 c3 q => hs3.extBut _ _ c1 (hs2 _ _ c3 (hs1.extBut _ _ c1 q))) ⟨oe, hs3.extBut _ _ hez hoe, hce⟩
theorem zt_next {z TI TO i1 i2 i3 l1 l2 l3 : Addr} {k1 k2 k3 : Nat} {xs ys zs : Array Value} {x y v a b c : Value} {Q : Option Value → Shared → Prop} (D : ZtAp z TI TO i1 i2 i3 l1 l2 l3)
    (hz : IsZip s.heap z TI TO .none) (hTI : IsTrip s.heap TI (.ref i1) (.ref i2) (.ref i3)) (hTO : IsTrip s.heap TO a b c)
    (h1 : s.heap.IsListIter i1 l1 k1) (h2 : s.heap.IsListIter i2 l2 k2) (h3 : s.heap.IsListIter i3 l3 k3) (hl1 : s.heap.IsList l1 xs) (hl2 : s.heap.IsList l2 ys) (hl3 : s.heap.IsList l3 zs) (hx : xs[k1]? = some x) (hy : ys[k2]? = some y) (hv : zs[k3]? = some v)
    (hQ : ∀ h', IsZip h' z TI TO (rawInt s.heap.objs.size) → IsTrip h' TO x y v → h'.IsListIter i1 l1 (k1 + 1) → h'.IsListIter i2 l2 (k2 + 1) → h'.IsListIter i3 l3 (k3 + 1) → IsTrip h' s.heap.objs.size x y v →
      (∀ c o, c ≠ z → c ≠ TO → c ≠ i1 → c ≠ i2 → c ≠ i3 → s.heap.get? c = some o → h'.get? c = some o) → Q (some (.ref s.heap.objs.size)) { s with heap := h' }) :
    wpAny (model prog w) A (pyNext (.ref z)) Q E s := by
  have hT : s.TypeIs (.ref z) "zip" := ⟨_, hz, rfl⟩
  unfold pyNext; exact wpAny_bind (wpAny_attempt (wpAny_callSpecial?_slot (name := Str.ofString "__next__") hT F.slot_zip_next (wpAny_call_entry F.slot_zip_next hT F.entry_zip_next (zt_item D hz hTI hTO h1 h2 h3 hl1 hl2 hl3 hx hy hv fun h' a1 a2 a3 a4 a5 a6 a7 => wpAny_pure (hQ h' a1 a2 a3 a4 a5 a6 a7)) (F.args_zip_next_1 _))))
theorem zt_stop {z TI TO i1 i2 i3 l1 : Addr} {k1 : Nat} {xs : Array Value} {Q : Option Value → Shared → Prop} (hh : A.handled = none) (n1 : i1 ≠ z) (n2 : l1 ≠ z)
    (hz : IsZip s.heap z TI TO .none) (hTI : IsTrip s.heap TI (.ref i1) (.ref i2) (.ref i3)) (h1 : s.heap.IsListIter i1 l1 k1) (hl1 : s.heap.IsList l1 xs) (hx : xs[k1]? = none)
    (hQ : ∀ h', (∀ c o, c ≠ z → c ≠ i1 → s.heap.get? c = some o → h'.get? c = some o) → Q none { s with heap := h' }) : wpAny (model prog w) A (pyNext (.ref z)) Q E s := by
  have hT : s.TypeIs (.ref z) "zip" := ⟨_, hz, rfl⟩
  unfold pyNext; refine wpAny_bind (wpAny_attempt (wpAny_callSpecial?_slot (name := Str.ofString "__next__") hT F.slot_zip_next (wpAny_call_entry F.slot_zip_next hT F.entry_zip_next (zt_end hh n1 n2 hz hTI h1 hl1 hx fun h' e hk he => ?_) (F.args_zip_next_1 _))))
  obtain ⟨o, ho, hc⟩ := he; refine wpAny_bind (wpAny_isInstance (T := "StopIteration") (b := true) ⟨o, ho, hc⟩ isSubtype_stop ?_); exact wpAny_pure (hQ _ hk)
end
abbrev ztH1 (h : Heap) (l : Addr) : Heap := h.push { cls := .type "list_iterator", data := .fields #[.ref l, .int 0 0] }
abbrev ztH3 (h : Heap) (l1 l2 l3 : Addr) : Heap := ztH1 (ztH1 (ztH1 h l1) l2) l3
abbrev ztH4 (h : Heap) (l1 l2 l3 : Addr) : Heap := (ztH3 h l1 l2 l3).push { cls := .type "tuple", data := .seq #[.ref h.objs.size, .ref (ztH1 h l1).objs.size, .ref (ztH1 (ztH1 h l1) l2).objs.size] }
abbrev ztH5 (h : Heap) (l1 l2 l3 : Addr) : Heap := (ztH4 h l1 l2 l3).push { cls := .type "tuple", data := .seq #[.none, .none, .none] }
abbrev ztH6 (h : Heap) (l1 l2 l3 : Addr) : Heap := (ztH5 h l1 l2 l3).push { cls := .type "zip", data := .fields #[.none, .bool false, .bool false, .ref (ztH3 h l1 l2 l3).objs.size, .ref (ztH4 h l1 l2 l3).objs.size] }
theorem zt_meets (l1 l2 l3 : Addr) (xs ys zs : Array Value) :
    Meets (Builtin.«zip.__new__» ⟨[.type "zip", .ref l1, .ref l2, .ref l3], []⟩) (fun _ R s => s.heap.IsList l1 xs ∧ s.heap.IsList l2 ys ∧ s.heap.IsList l3 zs ∧
      R (.ok (.ret (.ref (ztH5 s.heap l1 l2 l3).objs.size))) { s with heap := ztH6 s.heap l1 l2 l3 }) :=
  .of_wp fun prog w A R s h => by
    obtain ⟨hp, g, d, tk, os⟩ := s; obtain ⟨hl1, hl2, hl3, h⟩ := h; have hsub := sub_zip
    have hL1 : Heap.IsList (Shared.heap ⟨hp, g, d, tk, os⟩) l1 xs := hl1
    have hL2 : Heap.IsList (Shared.heap ⟨ztH1 hp l1, g, d, tk, os⟩) l2 ys := Heap.IsList.push hl2 _
    have hL3 : Heap.IsList (Shared.heap ⟨ztH1 (ztH1 hp l1) l2, g, d, tk, os⟩) l3 zs := Heap.IsList.push (Heap.IsList.push hl3 _) _
    wp_walk using wpAny_pyIter_list hL1, wpAny_pyIter_list hL2, wpAny_pyIter_list hL3
    exact ⟨_, rfl, h⟩
theorem zt_call {prog : Program} {w : World} {A : Around} {E : Value → Shared → Prop} {s : Shared} {l1 l2 l3 : Addr} {xs ys zs : Array Value} {Q : Value → Shared → Prop} (hl1 : s.heap.IsList l1 xs) (hl2 : s.heap.IsList l2 ys) (hl3 : s.heap.IsList l3 zs)
    (h : ∀ h', IsZip h' (s.heap.objs.size + 5) (s.heap.objs.size + 3) (s.heap.objs.size + 4) .none → IsTrip h' (s.heap.objs.size + 3) (.ref s.heap.objs.size) (.ref (s.heap.objs.size + 1)) (.ref (s.heap.objs.size + 2)) →
      IsTrip h' (s.heap.objs.size + 4) .none .none .none → h'.IsListIter s.heap.objs.size l1 0 → h'.IsListIter (s.heap.objs.size + 1) l2 0 → h'.IsListIter (s.heap.objs.size + 2) l3 0 → (∀ c o, s.heap.get? c = some o → h'.get? c = some o) → Q (.ref (s.heap.objs.size + 5)) { s with heap := h' }) :
    wpAny (model prog w) A (call (.type "zip") [.ref l1, .ref l2, .ref l3]) Q E s := by
  refine callType_new F.called_zip (by decide) (zt_typeCall _ _ _) (zt_newCall _ _ _) (fun obj => zt_init obj _ _ _) F.entry_zip_new (zt_meets l1 l2 l3 xs ys zs) ⟨hl1, hl2, hl3, ?_⟩
  have z1 : (ztH1 s.heap l1).objs.size = s.heap.objs.size + 1 := Heap.size_push ..
  have z2 : (ztH1 (ztH1 s.heap l1) l2).objs.size = s.heap.objs.size + 2 := by rw [Heap.size_push, z1]
  have z3 : (ztH3 s.heap l1 l2 l3).objs.size = s.heap.objs.size + 3 := by rw [Heap.size_push, z2]
  have z4 : (ztH4 s.heap l1 l2 l3).objs.size = s.heap.objs.size + 4 := by rw [Heap.size_push, z3]
  have z5 : (ztH5 s.heap l1 l2 l3).objs.size = s.heap.objs.size + 5 := by rw [Heap.size_push, z4]
  have k1 : ∀ c o, (ztH5 s.heap l1 l2 l3).get? c = some o → (ztH6 s.heap l1 l2 l3).get? c = some o := fun c o e => Heap.get?_push_of_some _ e
  have k2 : ∀ c o, (ztH4 s.heap l1 l2 l3).get? c = some o → (ztH6 s.heap l1 l2 l3).get? c = some o := fun c o e => k1 c o (Heap.get?_push_of_some _ e)
  have k3 : ∀ c o, (ztH3 s.heap l1 l2 l3).get? c = some o → (ztH6 s.heap l1 l2 l3).get? c = some o := fun c o e => k2 c o (Heap.get?_push_of_some _ e)
  have k4 : ∀ c o, (ztH1 (ztH1 s.heap l1) l2).get? c = some o → (ztH6 s.heap l1 l2 l3).get? c = some o := fun c o e => k3 c o (Heap.get?_push_of_some _ e)
  have k5 : ∀ c o, (ztH1 s.heap l1).get? c = some o → (ztH6 s.heap l1 l2 l3).get? c = some o := fun c o e => k4 c o (Heap.get?_push_of_some _ e)
  have e6 : (ztH6 s.heap l1 l2 l3).get? (ztH5 s.heap l1 l2 l3).objs.size = some _ := Heap.get?_push_size _ rfl
  have e5 : (ztH6 s.heap l1 l2 l3).get? (ztH4 s.heap l1 l2 l3).objs.size = some _ := k1 _ _ (Heap.get?_push_size _ rfl)
  have e4 : (ztH6 s.heap l1 l2 l3).get? (ztH3 s.heap l1 l2 l3).objs.size = some _ := k2 _ _ (Heap.get?_push_size _ rfl)
  have e3 : (ztH6 s.heap l1 l2 l3).get? (ztH1 (ztH1 s.heap l1) l2).objs.size = some _ := k3 _ _ (Heap.get?_push_size _ rfl)
  have e2 : (ztH6 s.heap l1 l2 l3).get? (ztH1 s.heap l1).objs.size = some _ := k4 _ _ (Heap.get?_push_size _ rfl)
  have e1 : (ztH6 s.heap l1 l2 l3).get? s.heap.objs.size = some _ := k5 _ _ (Heap.get?_push_size _ rfl)
  show _ ∧ _
  rw [z3, z4, z5] at e6
  rw [z4] at e5
  rw [z1, z2, z3] at e4
  rw [z2] at e3
  rw [z1] at e2
  rw [z5]
  exact ⟨⟨_, e6, rfl⟩, h _ e6 e4 e5 ⟨_, e1, rfl, rfl⟩ ⟨_, e2, rfl, rfl⟩ ⟨_, e3, rfl, rfl⟩ fun c o q => k5 c o (Heap.get?_push_of_some _ q)⟩
theorem ztAp_new {n l1 l2 l3 : Nat} (h1 : l1 < n) (h2 : l2 < n) (h3 : l3 < n) : ZtAp (n + 5) (n + 3) (n + 4) n (n + 1) (n + 2) l1 l2 l3 := by
  refine ⟨?_, ?_, ?_, ?_, ?_, ?_, ?_, ?_⟩ <;> refine ⟨?_, ?_, ?_, ?_⟩ <;> (try refine ⟨?_, ?_⟩) <;> show (_ : Nat) ≠ _ <;> omega
def Ity (K : PySem.W.Frag) (a b c : Addr) : It :=
  ⟨fun i H => ∃ xs ys zs x y v, SqL K H a xs ∧ SqL K H b ys ∧ SqL K H c zs ∧ xs[i]? = some x ∧ ys[i]? = some y ∧ zs[i]? = some v, fun i H u H' => ∃ p x y v, u = .ref p ∧ H p = none ∧ (∀ xs, SqL K H a xs → xs[i]? = some x) ∧ (∀ ys, SqL K H b ys → ys[i]? = some y) ∧ (∀ zs, SqL K H c zs → zs[i]? = some v) ∧ H' = upd H p (.tup [x, y, v]),
   fun i H => ∃ xs, SqL K H a xs ∧ xs.length ≤ i⟩
theorem turn_zt {P : Program} {w : World} {K : PySem.W.Frag} {elts : List Expr} {x1} {pos : Pos} (a b c z TI TO i1 i2 i3 : Addr) (D : ZtAp z TI TO i1 i2 i3 a b c) : Turn P w K (.Tuple elts x1 pos) (Ity K a b c) [z, TI, TO, i1, i2, i3] z
    (fun i h => IsZip h z TI TO .none ∧ IsTrip h TI (.ref i1) (.ref i2) (.ref i3) ∧ (∃ u v t, IsTrip h TO u v t) ∧ h.IsListIter i1 a i ∧ h.IsListIter i2 b i ∧ h.IsListIter i3 c i) where
  mem := by simp
  obj := fun i h st d hd => by
    obtain ⟨hz, h1, ⟨u, v, t, h2⟩, ⟨o1, e1, c1, d1⟩, ⟨o2, e2, c2, d2⟩, ⟨o3, e3, c3, d3⟩⟩ := st
    simp only [List.mem_cons, List.not_mem_nil, or_false] at hd
    rcases hd with rfl | rfl | rfl | rfl | rfl | rfl
    · exact ⟨_, hz, fun v q => by
        have q' : Data.fields _ = Data.cell v := q
        cases q'⟩
    · exact ⟨_, h1, fun v q => by
        have q' : Data.seq _ _ = Data.cell v := q
        cases q'⟩
    · exact ⟨_, h2, fun v q => by
        have q' : Data.seq _ _ = Data.cell v := q
        cases q'⟩
    · exact ⟨o1, e1, fun v q => by rw [d1] at q; cases q⟩
    · exact ⟨o2, e2, fun v q => by rw [d2] at q; cases q⟩
    · exact ⟨o3, e3, fun v q => by rw [d3] at q; cases q⟩
  keep := fun i h h' st k => by
    obtain ⟨hz, h1, ⟨u, v, t, h2⟩, s1, s2, s3⟩ := st
    exact ⟨k z (by simp) _ hz, k TI (by simp) _ h1, ⟨u, v, t, k TO (by simp) _ h2⟩, s1.at fun o e => k i1 (by simp) o e, s2.at fun o e => k i2 (by simp) o e, s3.at fun o e => k i3 (by simp) o e⟩
  item := by
    intro X hP hw hK hc i pins s σ H E I hf st hg
    subst hP hw hK
    obtain ⟨hz, h1, ⟨u0, v0, t0, h2⟩, s1, s2, s3⟩ := st
    obtain ⟨xs, ys, zs, x, y, v, hq, hq', hq2, hx, hy, hv⟩ := hg
    obtain ⟨its, rv, p, hzl⟩ := I.list hq
    obtain ⟨its', rv', p', hzl'⟩ := I.list hq'
    obtain ⟨its2, rv2, p2, hzl2⟩ := I.list hq2
    obtain ⟨u, hu, ru⟩ := rv.get hx
    obtain ⟨u', hu', ru'⟩ := rv'.get hy
    obtain ⟨u2, hu2, ru2⟩ := rv2.get hv
    have ltz : z < s.heap.objs.size := Heap.lt_size hz
    have lt1 : TI < s.heap.objs.size := Heap.lt_size h1
    have lt2 : TO < s.heap.objs.size := Heap.lt_size h2
    have lti : i1 < s.heap.objs.size := by obtain ⟨o, e1, _⟩ := s1; exact Heap.lt_size e1
    have ltj : i2 < s.heap.objs.size := by obtain ⟨o, e1, _⟩ := s2; exact Heap.lt_size e1
    have ltk : i3 < s.heap.objs.size := by obtain ⟨o, e1, _⟩ := s3; exact Heap.lt_size e1
    refine zt_next D hz h1 h2 s1 s2 s3 p.isList p'.isList p2.isList (x := u) (y := u') (v := u2) (by simpa using hu) (by simpa using hu') (by simpa using hu2) fun g1 a1 a2 a3 a4 a5 a6 hk => ?_
    refine ⟨_, rfl, wpAny_letOwnedTupleGo_zip a1 fun g2 he2 hs2 => ?_⟩
    replace hs2 : Heap.SameBut z g1 g2 := hs2
    have nm : ∀ b, b ∉ [z, TI, TO, i1, i2, i3] → b ≠ z ∧ b ≠ TO ∧ b ≠ i1 ∧ b ≠ i2 ∧ b ≠ i3 := fun b hb => ⟨fun q => hb (by simp [q]), fun q => hb (by simp [q]), fun q => hb (by simp [q]), fun q => hb (by simp [q]), fun q => hb (by simp [q])⟩
    have IT := I.turnedT (t' := s.toks) (h' := g2) (its := [z, TI, TO, i1, i2, i3]) (xs := [x, y, v]) (us := [u, u', u2]) (fun b o hb q => hs2.extBut b o (nm b hb).1 (hk b o (nm b hb).1 (nm b hb).2.1 (nm b hb).2.2.1 (nm b hb).2.2.2.1 (nm b hb).2.2.2.2 q)) hf
      (fun b hb => by
        simp only [List.mem_cons, List.not_mem_nil, or_false] at hb
        rcases hb with rfl | rfl | rfl | rfl | rfl | rfl <;> assumption)
      (hs2.extBut _ _ (Nat.ne_of_gt ltz) a6) (by show 3 ≤ sizeLine; decide) (.cons ru (.cons ru' (.cons ru2 .nil)))
    exact ⟨.ref s.heap.objs.size, _, IT.1, rfl, ⟨_, x, y, v, rfl, I.hok.fresh (Nat.le_refl _), fun ys hy' => by rw [I.list_inj hy' hq]; exact hx, fun ys hy' => by rw [I.list_inj hy' hq']; exact hy, fun ys hy' => by rw [I.list_inj hy' hq2]; exact hv, rfl⟩,
      ⟨he2, hs2.extBut _ _ D.dI.1 (hk _ _ D.dI.1 D.dI.2.1 D.dI.2.2.1 D.dI.2.2.2.1 D.dI.2.2.2.2 h1), ⟨_, _, _, hs2.extBut _ _ D.dO.1 a2⟩, a3.extBut hs2.extBut D.d1.1, a4.extBut hs2.extBut D.d2.1, a5.extBut hs2.extBut D.d3.1⟩, IT.2⟩
  done := by
    intro X hP hw hK hc i pins s σ H E I hf st hg
    subst hP hw hK
    obtain ⟨hz, h1, ⟨u0, v0, t0, h2⟩, s1, s2, s3⟩ := st
    obtain ⟨xs, hq, hx⟩ := hg
    obtain ⟨its, rv, p, hzl⟩ := I.list hq
    have hl := rv.length
    refine zt_stop (I.ok.hd hc) D.d1.1 D.m1.1 hz h1 s1 p.isList (by simp; omega) fun h' hk => ⟨rfl, I.turnedL (t' := s.toks) (its := [z, TI, TO, i1, i2, i3]) (fun b o hb e => hk b o (fun q => hb (by simp [q])) (fun q => hb (by simp [q])) e) hf⟩
  self := fun A i s Q E st h => wpAny_pyIter_zip st.1 h
section
variable {X : Cx}
def iZt (K : PySem.W.Frag) (ta : TA) : TI := fun σ H R => ta σ H fun vs H1 => ∃ a b c, vs = [.ref a, .ref b, .ref c] ∧ (∃ xs, SqL K H1 a xs) ∧ (∃ ys, SqL K H1 b ys) ∧ (∃ zs, SqL K H1 c zs) ∧ R (Ity K a b c) H1
theorem pi_zt {elts : List Expr} {x1} {pos' : Pos} {a b c : Expr} {ta : TA} {p pos : Pos} (hg : Gl X "zip") (hm : X.mg "zip" = none) (ha : PA X [a, b, c] ta) (hs : starEach [a, b, c] X.env = [(false, eval a X.env), (false, eval b X.env), (false, eval c X.env)] := by rfl) (hs2 : starEach [b, c] X.env = [(false, eval b X.env), (false, eval c X.env)] := by rfl) :
    PI X (.Tuple elts x1 pos') (.Call (.Name "zip" p) [a, b, c] [] pos) (iZt X.K ta) := by
  intro pins s σ H R I h
  refine Call_ (ld_blt I hg hm boot_zip (PyProof.Rows.callWith_type1 (thn (ha pos pins s σ H _ I h) fun us s1 ⟨vs, H1, I1, r1, q1⟩ => ?_) (by rw [hs, hs2]) (by rw [hs2]; rfl)))
  obtain ⟨a, b, c, e, ⟨xs, hq⟩, ⟨ys, hq'⟩, ⟨zs, hq2⟩, q⟩ := q1
  subst e
  cases r1 with
  | cons r rr =>
    cases rr with
    | cons r' rr =>
      cases rr with
      | cons r2 rr =>
        cases rr
        cases r
        cases r'
        cases r2
        obtain ⟨its, rv, p, hz⟩ := I1.list hq
        obtain ⟨its', rv', p', hz'⟩ := I1.list hq'
        obtain ⟨its2, rv2, p2, hz2⟩ := I1.list hq2
        have la : a < s1.heap.objs.size := by obtain ⟨o, e1, _⟩ := p.isList; exact Heap.lt_size e1
        have lb : b < s1.heap.objs.size := by obtain ⟨o, e1, _⟩ := p'.isList; exact Heap.lt_size e1
        have lc : c < s1.heap.objs.size := by obtain ⟨o, e1, _⟩ := p2.isList; exact Heap.lt_size e1
        refine zt_call p.isList p'.isList p2.isList fun h' hz hTI hTO hi1 hi2 hi3 hk => ?_
        have I2 : Inv X pins σ H1 { s1 with heap := h' } := I1.kept (t' := s1.toks) hk
        refine wpAny_pyIter_zip hz ?_
        refine ⟨_, _, _, _, H1, rfl, I2, turn_zt a b c _ _ _ _ _ _ (ztAp_new la lb lc), ⟨hz, hTI, ⟨_, _, _, hTO⟩, hi1, hi2, hi3⟩, fun d hd => ?_, q⟩
        simp only [List.mem_cons, List.not_mem_nil, or_false] at hd
        rcases hd with rfl | rfl | rfl | rfl | rfl | rfl <;> exact I1.fpOk (by omega) (I1.hok.fresh (by omega))
end
theorem for_zt {K : PySem.W.Frag} {a b c : Addr} {xs ys zs : List V} {g : TG} {tb : TS} {D : Ends} {σ : St} {H : Hp} (hlen : xs.length = ys.length) (hlen2 : xs.length = zs.length) (Pv : Nat → St → Hp → Prop) (h0 : Pv 0 σ H) (hl : ∀ i σ H, i ≤ xs.length → Pv i σ H → SqL K H a xs ∧ SqL K H b ys ∧ SqL K H c zs)
    (hs : ∀ i x y v σ H p, xs[i]? = some x → ys[i]? = some y → zs[i]? = some v → Pv i σ H → H p = none → g (.ref p) σ (upd H p (.tup [x, y, v])) fun σ2 H2 => tb { D with nx := Pv (i + 1), ct := Pv (i + 1), bk := D.nx } σ2 H2) (hd : ∀ σ H, Pv xs.length σ H → D.nx σ H) :
    ∃ W : Nat → Nat → St → Hp → Prop, (∃ m, W 0 m σ H) ∧ ∀ i m σ H, W i m σ H →
      ((Ity K a b c).stop i H ∧ D.nx σ H) ∨ ((Ity K a b c).go i H ∧ ∃ N : St → Hp → Prop, (∀ σ' H', N σ' H' → ∃ m', m' < m ∧ W (i + 1) m' σ' H') ∧ ∀ x H', (Ity K a b c).yld i H x H' → g x σ H' fun σ2 H2 => tb { D with nx := N, ct := N, bk := D.nx } σ2 H2) := by
  refine ⟨fun i m σ H => m = xs.length - i ∧ i ≤ xs.length ∧ Pv i σ H, ⟨xs.length, by simp, Nat.zero_le _, h0⟩, ?_⟩
  rintro i m σ H ⟨rfl, hi, p⟩
  obtain ⟨q1, q2, q3⟩ := hl i σ H hi p
  by_cases hlt : i < xs.length
  · refine .inr ⟨⟨xs, ys, zs, xs[i], ys[i]'(by omega), zs[i]'(by omega), q1, q2, q3, by simp [hlt], by simp [show i < ys.length by omega], by simp [show i < zs.length by omega]⟩, Pv (i + 1), fun σ' H' p' => ⟨xs.length - (i + 1), by omega, rfl, hlt, p'⟩, fun x H' y => ?_⟩
    obtain ⟨r, y1, y2, y3, rfl, hr, hy1, hy2, hy3, rfl⟩ := y
    exact hs i y1 y2 y3 σ _ r (hy1 xs q1) (hy2 ys q2) (hy3 zs q3) p hr
  · have e : i = xs.length := by omega
    subst e
    exact .inl ⟨⟨xs, q1, Nat.le_refl _⟩, hd σ H p⟩
end L2
set_option Elab.async false
set_option linter.all false
set_option maxRecDepth 100000
set_option maxHeartbeats 5000000
namespace L2
open PySem PySem.Spec PyProof.Rows PySem.SeqAt
section
variable {X : Cx} {ev : Expr} {a b : Str} {i : Int} {ja jb} {pa pb pf pos : Pos}
end
theorem pss_none {X : Cx} {ss : List Stmt} : PSs X ss (fun _ _ _ => False) := fun _ _ _ _ _ _ h => h.elim
end L2
set_option Elab.async false
set_option linter.all false
set_option maxRecDepth 100000
set_option maxHeartbeats 5000000
namespace L2
open PySem PySem.Spec PyProof.Rows PySem.SeqAt
theorem Paired.appP {α β : Type} {F : α → β → Prop} : ∀ {a c : List α} {b d : List β}, Paired F a b → Paired F c d → Paired F (a ++ c) (b ++ d)
  | _, _, _, _, .nil, h => h
  | _, _, _, _, .cons h t, g => .cons h (Paired.appP t g)
section
variable {X : Cx}
end
abbrev d3 (t : Int × Int × Int) : PyData := .tuple [.int t.1, .int t.2.1, .int t.2.2]
end L2
set_option Elab.async false
set_option linter.all false
set_option maxRecDepth 100000
set_option maxHeartbeats 5000000
namespace L2
open PySem PySem.Spec PyProof.Rows PySem.W
def CodeO (qual : Str) (a : Addr) : HO := .ext fun h => h.CodeRec (.ref a) qual
def LamT (P : Addr) (pos : Pos) (qual : Str) (H : Hp) : Prop :=
  H P = some (.tbl #[]) ∨ ∃ c : Addr, H P = some (.tbl #[rawInt pos.line, rawInt pos.col, .ref c]) ∧ H c = some (CodeO qual c)
def SmP (P : Addr) (H H' : Hp) : Prop := ∀ b o, b ≠ P → H b = some o → H' b = some o
theorem SmP.of {P : Addr} {H H' : Hp} (h : Same H H') : SmP P H H' := fun b o _ e => h b o e
theorem SmP.trans {P : Addr} {H H1 H2 : Hp} (a : SmP P H H1) (b : SmP P H1 H2) : SmP P H H2 := fun c o n e => b c o n (a c o n e)
theorem LamT.same {P : Addr} {pos : Pos} {qual : Str} {H H' : Hp} (l : LamT P pos qual H) (h : Same H H') : LamT P pos qual H' := by
  rcases l with l | ⟨c, l1, l2⟩
  · exact .inl (h _ _ l)
  · exact .inr ⟨c, h _ _ l1, h _ _ l2⟩
theorem LamT.ne {P a : Addr} {pos : Pos} {qual : Str} {H : Hp} {xs : List V} (l : LamT P pos qual H) (h : H a = some (.lst xs)) : a ≠ P := fun e => by
  subst e
  rcases l with l | ⟨c, l, _⟩ <;> · rw [h] at l; cases l
section
variable {X : Cx} {pins : List (Addr × Obj)} {σ : St} {H H' : Hp} {s : Shared} {h' : Heap}
end
section
variable {prog : Program} {w : World} {A : Around} {E : Value → Shared → Prop} {s : Shared} {q c' cc l : Addr} {qual pl ld : Str} {params : Arguments} {scope : Scope} {pm ctv : Value} {p1 p2 p3 : Pos} {nm : Str}
end
section
variable {X : Cx} {pins : List (Addr × Obj)} {σ : St} {H : Hp} {s : Shared} {q c' cc l a c P : Addr} {qual pl ld : Str} {params : Arguments} {scope : Scope} {pm ctv : Value} {p1 p2 p3 lpos kp p pos : Pos} {nm : Str} {e : Expr} {te : TE}
theorem LamT.tab {P : Addr} {pos : Pos} {qual : Str} {H : Hp} (l : LamT P pos qual H) : ∃ ps, H P = some (.tbl ps) := by
  rcases l with l | ⟨_, l, _⟩
  · exact ⟨_, l⟩
  · exact ⟨_, l⟩
theorem SmP.seq {K : PySem.W.Frag} {P a : Addr} {H H' : Hp} {xs : List V} (e : SmP P H H') (l : ∃ ps, H P = some (.tbl ps)) (h : SqL K H a xs) : SqL K H' a xs := by
  obtain ⟨ps, l⟩ := l
  have ne : ∀ o, H a = some o → o ≠ .tbl ps → a ≠ P := fun o e1 n z => by
    subst z
    rw [e1] at l; exact n (Option.some.inj l)
  rcases h with (h | ⟨o, h⟩) | h
  · exact .inl (.inl (e _ _ (ne _ h (fun z => nomatch z)) h))
  · exact .inl (.inr ⟨o, e _ _ (ne _ h (fun z => nomatch z)) h⟩)
  · exact .inr h
end
end L2
set_option Elab.async false
set_option linter.all false
set_option maxRecDepth 100000
set_option maxHeartbeats 5000000
namespace L2
open PySem PySem.Spec PyProof.Rows PySem.W
end L2
set_option Elab.async false
set_option linter.all false
set_option maxRecDepth 100000
set_option maxHeartbeats 5000000
namespace L2
open PySem PySem.Spec PyProof.Rows PySem.W
theorem SmP.free {T : Addr} {H H' : Hp} (e : SmP T H H') (t : ∃ ps, H' T = some (.tbl ps)) {l : Addr} (h : H' l = none) : H l = none := by
  cases q : H l with
  | none => rfl
  | some o =>
    have ne : l ≠ T := fun z => by obtain ⟨ps, t⟩ := t; rw [← z, h] at t; cases t
    rw [e l o ne q] at h; cases h
theorem SmP.tr {T : Addr} {H H' : Hp} {r : Addr} {ts : List (Int × Int × Int)} (e : SmP T H H') (t : ∃ ps, H T = some (.tbl ps)) (h : TrAt H r ts) : TrAt H' r ts := by
  obtain ⟨ps, t⟩ := t
  have ne : ∀ a o, H a = some o → o ≠ .tbl ps → a ≠ T := fun a o e1 n z => by rw [z, t] at e1; exact n (Option.some.inj e1).symm
  obtain ⟨as, h1, h2⟩ := h
  exact ⟨as, e _ _ (ne _ _ h1 fun z => nomatch z) h1, Paired.mapP h2 fun d x q => e _ _ (ne _ _ q fun z => nomatch z) q⟩
theorem SmP.lst {T : Addr} {H H' : Hp} {r : Addr} {xs : List V} (e : SmP T H H') (t : ∃ ps, H T = some (.tbl ps)) (h : H r = some (.lst xs)) : H' r = some (.lst xs) := by
  obtain ⟨ps, t⟩ := t
  exact e _ _ (fun z => by rw [z, t] at h; cases h) h
theorem SmP.same {T : Addr} {H H1 H2 : Hp} (a : SmP T H H1) (b : Same H1 H2) : SmP T H H2 := a.trans (.of b)
theorem SmP.upd {T : Addr} {H H' : Hp} {r : Addr} {o : HO} (e : SmP T H H') (h : H r = none) : SmP T H (upd H' r o) := fun b u n q => by rw [upd_ne (ne_of_none q h)]; exact e b u n q
theorem LamT.upd {T r : Addr} {pos : Pos} {qual : Str} {H : Hp} {xs ys : List V} (l : LamT T pos qual H) (h : H r = some (.lst xs)) : LamT T pos qual (upd H r (.lst ys)) := by
  rcases l with l | ⟨c, l1, l2⟩
  · exact .inl (by rw [upd_ne (fun z => by rw [← z, l] at h; cases h)]; exact l)
  · refine .inr ⟨c, by rw [upd_ne (fun z => by rw [← z, l1] at h; cases h)]; exact l1, ?_⟩
    rw [upd_ne (fun z => by rw [← z, l2] at h; cases h)]; exact l2
end L2
namespace L2
open PySem PySem.Spec PyProof.Rows PySem.W
end L2
namespace Pt
def NoDiv (m b : Int) : Prop := ∀ d, 2 ≤ d → d < b → ¬ d ∣ m
def Prm (p : Int) : Prop := 2 ≤ p ∧ ∀ d, 2 ≤ d → d < p → ¬ d ∣ p
def IsPow (p q : Int) : Prop := ∃ e : Nat, q = p ^ (e + 1)
def Prd : List (Int × Int) → Int
  | [] => 1
  | a :: r => a.2 * Prd r
theorem pow1 (a : Int) : a ^ (0 + 1) = a := by rw [Int.pow_succ, Int.pow_zero, Int.one_mul]
theorem Prd_append : ∀ (a b : List (Int × Int)), Prd (a ++ b) = Prd a * Prd b
  | [], b => by simp [Prd]
  | x :: r, b => by simp [Prd, Prd_append r b, Int.mul_assoc]
structure Row (x : Int × Int) : Prop where
  pr : Prm x.1
  pw : IsPow x.1 x.2
structure PInv (n : Int) (ps : List (Int × Int)) (left p : Int) : Prop where
  prd : Prd ps * left = n
  nod : NoDiv left p
  row : ∀ x ∈ ps, Row x
  low : ∀ x ∈ ps, x.1 < p
  srt : ps.Pairwise fun a b => a.1 < b.1
structure Parts (n : Int) (ps : List (Int × Int)) : Prop where
  prd : Prd ps = n
  row : ∀ x ∈ ps, Row x
  srt : ps.Pairwise fun a b => a.1 < b.1
theorem start (n : Int) : PInv n [] n 2 :=
  ⟨by simp [Prd], fun d h1 h2 => by omega, fun x h => (nomatch h), fun x h => (nomatch h), List.Pairwise.nil⟩
structure QInv (m p q : Int) : Prop where
  pos : 1 ≤ q
  pw : ∃ e : Nat, q = p ^ e
  dv : q ∣ m
theorem q0 (m p : Int) : QInv m p 1 := ⟨by omega, ⟨0, by simp⟩, Int.one_dvd m⟩
theorem q1 {m p q : Int} (hp : 2 ≤ p) (h : QInv m p q) (d : m % (q * p) = 0) : QInv m p (q * p) := by
  obtain ⟨h1, ⟨e, he⟩, h3⟩ := h
  have := Int.mul_le_mul_of_nonneg_left hp (show 0 ≤ q by omega)
  exact ⟨by omega, ⟨e + 1, by rw [he, Int.pow_succ]⟩, Int.dvd_of_emod_eq_zero d⟩
theorem q_le {m p q : Int} (hm : 1 ≤ m) (h : QInv m p q) : q ≤ m := Int.le_of_dvd (by omega) h.dv
theorem q_grow {p q : Int} (hp : 2 ≤ p) (h : 1 ≤ q) : q < q * p := by
  have := Int.mul_le_mul_of_nonneg_left hp (show 0 ≤ q by omega)
  omega
structure QEnd (m p q : Int) : Prop where
  inv : QInv m p q
  no : ¬ q * p ∣ m
theorem q2 {m p q : Int} (h : QInv m p q) (d : ¬ m % (q * p) = 0) : QEnd m p q := ⟨h, fun z => d (Int.emod_eq_zero_of_dvd z)⟩
theorem turnB {n : Int} {ps : List (Int × Int)} {left p q : Int} (h : PInv n ps left p) (hq : QEnd left p q) (h1 : ¬ q > 1) : PInv n ps left (p + 1) := by
  have e : q = 1 := by have := hq.inv.pos; omega
  have no : ¬ p ∣ left := by have := hq.no; rw [e, Int.one_mul] at this; exact this
  refine ⟨h.prd, fun d h2 h3 => ?_, h.row, fun x hx => by have := h.low x hx; omega, h.srt⟩
  by_cases c : d = p
  · rw [c]; exact no
  · exact h.nod d h2 (by omega)
theorem turnA {n : Int} {ps : List (Int × Int)} {left p q : Int} (hp : 2 ≤ p) (h : PInv n ps left p) (hq : QEnd left p q) (h1 : q > 1) : PInv n (ps ++ [(p, q)]) (left / q) (p + 1) := by
  obtain ⟨⟨q1, ⟨e, he⟩, ⟨c, hc⟩⟩, no⟩ := hq
  have ec : left / q = c := by rw [hc]; exact Int.mul_ediv_cancel_left c (by omega)
  cases e with
  | zero => rw [he] at h1; simp at h1
  | succ e =>
    have pq : p ∣ q := by rw [he, Int.pow_succ]; exact Int.dvd_mul_left _ _
    have pl : p ∣ left := Int.dvd_trans pq ⟨c, hc⟩
    have cl : c ∣ left := ⟨q, by rw [hc, Int.mul_comm]⟩
    have prm : Prm p := ⟨hp, fun d h2 h3 z => h.nod d h2 h3 (Int.dvd_trans z pl)⟩
    refine ⟨?_, ?_, ?_, ?_, ?_⟩
    · rw [Prd_append, ec]; simp only [Prd, Int.mul_one]
      rw [Int.mul_assoc, ← hc]; exact h.prd
    · rw [ec]
      intro d h2 h3 z
      by_cases k : d = p
      · apply no
        obtain ⟨f, hf⟩ := z
        exact ⟨f, by rw [hc, hf, k, Int.mul_assoc]⟩
      · exact h.nod d h2 (by omega) (Int.dvd_trans z cl)
    · intro x hx
      rcases List.mem_append.mp hx with hx | hx
      · exact h.row x hx
      · obtain rfl := List.mem_singleton.mp hx
        exact ⟨prm, ⟨e, he⟩⟩
    · intro x hx
      rcases List.mem_append.mp hx with hx | hx
      · have := h.low x hx; omega
      · obtain rfl := List.mem_singleton.mp hx
        show p < p + 1; omega
    · rw [List.pairwise_append]
      refine ⟨h.srt, List.pairwise_singleton _ _, fun a ha b hb => ?_⟩
      obtain rfl := List.mem_singleton.mp hb
      exact h.low a ha
theorem left_pos {left q : Int} (h : 1 ≤ left) (hd : q ∣ left) (hq : 1 ≤ q) : 1 ≤ left / q ∧ left / q ≤ left := by
  obtain ⟨c, hc⟩ := hd
  have ec : left / q = c := by rw [hc]; exact Int.mul_ediv_cancel_left c (by omega)
  rw [ec]
  have cp : 1 ≤ c := by
    rcases Int.lt_or_le 0 c with z | z
    · omega
    · have := Int.mul_le_mul_of_nonneg_left z (show 0 ≤ q by omega)
      omega
  have := Int.mul_le_mul_of_nonneg_right hq (show 0 ≤ c by omega)
  omega
theorem prm_left {left p : Int} (hp : 2 ≤ p) (h : NoDiv left p) (hb : ¬ p * p ≤ left) (h1 : left > 1) : Prm left ∧ p ≤ left := by
  have pl : p ≤ left := by
    rcases Int.lt_or_le left p with z | z
    · exact absurd (Int.dvd_refl left) (h left (by omega) z)
    · exact z
  refine ⟨⟨by omega, fun d h2 h3 hd => ?_⟩, pl⟩
  obtain ⟨c, hc⟩ := id hd
  by_cases dp : d < p
  · exact h d h2 dp hd
  · have c2 : 2 ≤ c := by
      rcases Int.lt_or_le c 2 with z | z
      · have : c ≤ 1 := by omega
        have := Int.mul_le_mul_of_nonneg_left this (show 0 ≤ d by omega)
        omega
      · exact z
    by_cases cp : c < p
    · exact h c c2 cp ⟨d, by rw [hc, Int.mul_comm]⟩
    · have a1 := Int.mul_le_mul_of_nonneg_left (show p ≤ c by omega) (show 0 ≤ d by omega)
      have a2 := Int.mul_le_mul_of_nonneg_right (show p ≤ d by omega) (show 0 ≤ p by omega)
      omega
theorem endA {n : Int} {ps : List (Int × Int)} {left p : Int} (hp : 2 ≤ p) (h : PInv n ps left p) (hb : ¬ p * p ≤ left) (h1 : left > 1) : Parts n (ps ++ [(left, left)]) := by
  obtain ⟨pr, pl⟩ := prm_left hp h.nod hb h1
  refine ⟨?_, ?_, ?_⟩
  · rw [Prd_append]; simp only [Prd, Int.mul_one]; exact h.prd
  · intro x hx
    rcases List.mem_append.mp hx with hx | hx
    · exact h.row x hx
    · obtain rfl := List.mem_singleton.mp hx
      exact ⟨pr, ⟨0, (pow1 left).symm⟩⟩
  · rw [List.pairwise_append]
    refine ⟨h.srt, List.pairwise_singleton _ _, fun a ha b hb => ?_⟩
    obtain rfl := List.mem_singleton.mp hb
    have := h.low a ha
    show a.1 < left; omega
theorem endB {n : Int} {ps : List (Int × Int)} {left p : Int} (h : PInv n ps left p) (h0 : 1 ≤ left) (h1 : ¬ left > 1) : Parts n ps := by
  have : left = 1 := by omega
  refine ⟨?_, h.row, h.srt⟩
  have := h.prd
  rw [‹left = 1›, Int.mul_one] at this
  exact this
structure RInv (p q r : Int) : Prop where
  ex : ∃ k e : Nat, r = p ^ (k + 1) ∧ q = p ^ (e + 1) ∧ k ≤ e
theorem r0 {p q : Int} (h : IsPow p q) : RInv p q p := by
  obtain ⟨e, he⟩ := h
  exact ⟨0, e, (pow1 p).symm, he, Nat.zero_le _⟩
theorem pow_pos' {p : Int} (hp : 2 ≤ p) (k : Nat) : 1 ≤ p ^ k := by
  induction k with
  | zero => simp
  | succ k ih =>
    rw [Int.pow_succ]
    have := Int.mul_le_mul_of_nonneg_left hp (show 0 ≤ p ^ k by omega)
    omega
theorem pow_mono {p : Int} (hp : 2 ≤ p) {k e : Nat} (h : k ≤ e) : p ^ k ≤ p ^ e := by
  obtain ⟨d, rfl⟩ := Nat.exists_eq_add_of_le h
  rw [Int.pow_add]
  have a := pow_pos' hp k
  have := Int.mul_le_mul_of_nonneg_left (pow_pos' hp d) (show 0 ≤ p ^ k by omega)
  omega
theorem r1 {p q r : Int} (hp : 2 ≤ p) (h : RInv p q r) (hl : r < q) : RInv p q (r * p) := by
  obtain ⟨k, e, hr, hq, hk⟩ := h
  refine ⟨k + 1, e, by rw [hr, ← Int.pow_succ], hq, ?_⟩
  rcases Nat.lt_or_ge k e with z | z
  · exact z
  · have : k = e := by omega
    rw [hr, hq, this] at hl; omega
theorem r_pos {p q r : Int} (hp : 2 ≤ p) (h : RInv p q r) : 1 ≤ r ∧ r ≤ q := by
  obtain ⟨k, e, hr, hq, hk⟩ := h
  rw [hr, hq]
  exact ⟨pow_pos' hp _, pow_mono hp (by omega)⟩
theorem r2 {p q r : Int} (hp : 2 ≤ p) (h : RInv p q r) (hl : ¬ r < q) : r = q := by
  have := r_pos hp h; omega
theorem row_le {x : Int × Int} (h : Row x) : 2 ≤ x.1 ∧ x.1 ≤ x.2 := by
  obtain ⟨e, he⟩ := h.pw
  refine ⟨h.pr.1, ?_⟩
  have a := pow_mono h.pr.1 (show 0 + 1 ≤ e + 1 by omega)
  rw [← he, pow1] at a
  exact a
theorem Prd_pos : ∀ (ps : List (Int × Int)), (∀ x ∈ ps, Row x) → 1 ≤ Prd ps
  | [], _ => by simp [Prd]
  | x :: r, h => by
    have a := row_le (h x List.mem_cons_self)
    have b := Prd_pos r fun y hy => h y (List.mem_cons_of_mem _ hy)
    have c := Int.mul_le_mul_of_nonneg_right (show 1 ≤ x.2 by omega) (show 0 ≤ Prd r by omega)
    simp only [Prd]; omega
theorem le_Prd : ∀ (ps : List (Int × Int)), (∀ x ∈ ps, Row x) → ∀ x ∈ ps, x.2 ≤ Prd ps
  | [], _, _, h => nomatch h
  | y :: r, h, x, hx => by
    have a := row_le (h y List.mem_cons_self)
    have h' : ∀ z ∈ r, Row z := fun z hz => h z (List.mem_cons_of_mem _ hz)
    have b := Prd_pos r h'
    simp only [Prd]
    rcases List.mem_cons.mp hx with e | e
    · rw [e]
      have c := Int.mul_le_mul_of_nonneg_left b (show 0 ≤ y.2 by omega)
      omega
    · have i := le_Prd r h' x e
      have c := Int.mul_le_mul_of_nonneg_right (show 1 ≤ y.2 by omega) (show 0 ≤ Prd r by omega)
      omega
end Pt
namespace Pt
theorem copr {p a : Int} (hp : Prm p) (h : ¬ p ∣ a) : Nat.Coprime p.natAbs a.natAbs := by
  have g1 : (Nat.gcd p.natAbs a.natAbs) ∣ p.natAbs := Nat.gcd_dvd_left _ _
  have g2 : (Nat.gcd p.natAbs a.natAbs) ∣ a.natAbs := Nat.gcd_dvd_right _ _
  have e1 : ((Nat.gcd p.natAbs a.natAbs : Nat) : Int) ∣ p := Int.ofNat_dvd_left.mpr g1
  have e2 : ((Nat.gcd p.natAbs a.natAbs : Nat) : Int) ∣ a := Int.ofNat_dvd_left.mpr g2
  have p2 := hp.1
  have gp : 0 < Nat.gcd p.natAbs a.natAbs := Nat.gcd_pos_of_pos_left _ (by omega)
  have gl : ((Nat.gcd p.natAbs a.natAbs : Nat) : Int) ≤ p := Int.le_of_dvd (by omega) e1
  show Nat.gcd p.natAbs a.natAbs = 1
  rcases Nat.lt_or_ge (Nat.gcd p.natAbs a.natAbs) 2 with z | z
  · omega
  · rcases Int.lt_or_le ((Nat.gcd p.natAbs a.natAbs : Nat) : Int) p with y | y
    · exact absurd e1 (hp.2 _ (by omega) y)
    · have : ((Nat.gcd p.natAbs a.natAbs : Nat) : Int) = p := by omega
      rw [this] at e2
      exact absurd e2 h
theorem euclid {p a b : Int} (hp : Prm p) (h : p ∣ a * b) : p ∣ a ∨ p ∣ b := by
  by_cases c : p ∣ a
  · exact .inl c
  · right
    have q := copr hp c
    have h' : p.natAbs ∣ a.natAbs * b.natAbs := by rw [← Int.natAbs_mul]; exact Int.natAbs_dvd_natAbs.mpr h
    exact Int.natAbs_dvd_natAbs.mp (q.dvd_of_dvd_mul_left h')
theorem prm_pow {p r : Int} (hp : Prm p) (hr : Prm r) : ∀ e : Nat, p ∣ r ^ e → p = r
  | 0, h => by
    have := Int.le_of_dvd (show (0:Int) < 1 by decide) (show p ∣ 1 by simpa using h)
    have := hp.1; omega
  | e + 1, h => by
    rw [Int.pow_succ] at h
    rcases euclid hp h with z | z
    · exact prm_pow hp hr e z
    · have l := Int.le_of_dvd (by have := hr.1; omega) z
      rcases Int.lt_or_le p r with y | y
      · exact absurd z (hr.2 p hp.1 y)
      · omega
theorem prm_Prd {p : Int} (hp : Prm p) : ∀ (ps : List (Int × Int)), (∀ x ∈ ps, Row x) → p ∣ Prd ps → ∃ x ∈ ps, x.1 = p
  | [], _, h => by
    have := Int.le_of_dvd (by decide) (show p ∣ 1 from h)
    have := hp.1; omega
  | x :: r, h, d => by
    have d' : p ∣ x.2 * Prd r := d
    rcases euclid hp d' with z | z
    · obtain ⟨e, he⟩ := (h x List.mem_cons_self).pw
      rw [he] at z
      exact ⟨x, List.mem_cons_self, (prm_pow hp (h x List.mem_cons_self).pr _ z).symm⟩
    · obtain ⟨y, hy, e⟩ := prm_Prd hp r (fun y hy => h y (List.mem_cons_of_mem _ hy)) z
      exact ⟨y, List.mem_cons_of_mem _ hy, e⟩
theorem pow_ne {p : Int} (hp : 2 ≤ p) (k : Nat) : p ^ k ≠ 0 := by have := pow_pos' hp k; omega
theorem pow_dvd {p : Int} {j e : Nat} (h : j + 1 ≤ e) : p ^ (j + 1) ∣ p ^ e := by
  obtain ⟨d, rfl⟩ := Nat.exists_eq_add_of_le h
  rw [Int.pow_add p (j + 1) d]; exact Int.dvd_mul_right _ _
end Pt
namespace Pt
def IsSign (n s : Int) : Prop :=
  ((∃ p, Prm p ∧ p * p ∣ n) ∧ s = 0) ∨ ((∀ p, Prm p → ¬ p * p ∣ n) ∧ ∃ l : List Int, l.Nodup ∧ (∀ p, p ∈ l ↔ Prm p ∧ p ∣ n) ∧ s = (-1) ^ l.length)
theorem prm_dvd {p r : Int} (hp : Prm p) (hr : Prm r) (h : p ∣ r) : p = r := prm_pow hp hr (0 + 1) (by rw [pow1]; exact h)
open Classical in
noncomputable def mu (n : Int) : Int := if h : ∃ s, IsSign n s then Classical.choose h else 0
theorem take_snoc {α : Type} {ps : List α} {i : Nat} {x : α} (h : ps[i]? = some x) : ps.take (i + 1) = ps.take i ++ [x] := by rw [List.take_add_one, h]; rfl
theorem sum_zero {l : List Int} {f : Int → Int} (h : ∀ d ∈ l, f d = 0) : (l.map f).sum = 0 := by
  induction l with
  | nil => rfl
  | cons x r ih =>
    have a := h x List.mem_cons_self
    have b := ih fun d hd => h d (List.mem_cons_of_mem _ hd)
    simp only [List.map_cons, List.sum_cons]; omega
end Pt
namespace Pt
theorem Prd_split {ps : List (Int × Int)} {x : Int × Int} (h : x ∈ ps) (srt : ps.Pairwise fun a b => a.1 < b.1) (row : ∀ y ∈ ps, Row y) : ∃ m, Prd ps = x.2 * m ∧ ¬ x.1 ∣ m ∧ 1 ≤ m := by
  obtain ⟨a, b, rfl⟩ := List.append_of_mem h
  rw [List.pairwise_append, List.pairwise_cons] at srt
  have ra : ∀ y ∈ a, Row y := fun y hy => row y (List.mem_append_left _ hy)
  have rb : ∀ y ∈ b, Row y := fun y hy => row y (List.mem_append_right _ (List.mem_cons_of_mem _ hy))
  have rx := row x h
  refine ⟨Prd a * Prd b, ?_, fun z => ?_, ?_⟩
  · rw [Prd_append]; simp only [Prd]; rw [Int.mul_left_comm]
  · rcases euclid rx.pr z with z | z
    · obtain ⟨y, hy, e⟩ := prm_Prd rx.pr a ra z
      have := srt.2.2 y hy x List.mem_cons_self
      omega
    · obtain ⟨y, hy, e⟩ := prm_Prd rx.pr b rb z
      have := srt.2.1.1 y hy
      omega
  · have := Int.mul_le_mul (Prd_pos a ra) (Prd_pos b rb) (by omega) (by have := Prd_pos a ra; omega)
    omega
theorem part_iff {n : Int} {ps : List (Int × Int)} (h : Parts n ps) (x : Int × Int) : x ∈ ps ↔ Prm x.1 ∧ x.1 ∣ n ∧ IsPow x.1 x.2 ∧ x.2 ∣ n ∧ ¬ x.2 * x.1 ∣ n := by
  constructor
  · intro hx
    have rx := h.row x hx
    obtain ⟨m, e, nd, m1⟩ := Prd_split hx h.srt h.row
    rw [h.prd] at e
    obtain ⟨k, hk⟩ := rx.pw
    have dq : x.2 ∣ n := ⟨m, e⟩
    refine ⟨rx.pr, Int.dvd_trans ?_ dq, rx.pw, dq, fun z => nd ?_⟩
    · rw [hk, Int.pow_succ]; exact Int.dvd_mul_left _ _
    · rw [e] at z
      exact Int.dvd_of_mul_dvd_mul_left (by have := row_le rx; omega) z
  · rintro ⟨pr, d, ⟨k, hk⟩, dq, nd⟩
    rw [← h.prd] at d
    obtain ⟨y, hy, e⟩ := prm_Prd pr ps h.row d
    obtain ⟨m, e2, nm, m1⟩ := Prd_split hy h.srt h.row
    rw [h.prd] at e2
    obtain ⟨j, hj⟩ := (h.row y hy).pw
    rw [e] at hj nm
    have p2 := pr.1
    have le : ∀ {a b : Nat} {c : Int}, ¬ x.1 ∣ c → x.1 ^ a ∣ x.1 ^ b * c → a ≤ b := by
      intro a b c hc hd
      rcases Nat.lt_or_ge b a with z | z
      · obtain ⟨t, rfl⟩ := Nat.exists_eq_add_of_le z
        rw [show b + 1 + t = b + (t + 1) by omega, Int.pow_add] at hd
        have := Int.dvd_of_mul_dvd_mul_left (pow_ne p2 b) hd
        exact absurd (Int.dvd_trans ⟨x.1 ^ t, by rw [Int.pow_succ, Int.mul_comm]⟩ this) hc
      · exact z
    have k1 : k + 1 ≤ j + 1 := le nm (by rw [← hj, ← e2, ← hk]; exact dq)
    have k2 : ¬ k + 1 + 1 ≤ j + 1 := fun z => nd (by
      rw [hk, ← Int.pow_succ, e2, hj]
      exact Int.dvd_trans (pow_dvd z) (Int.dvd_mul_right _ _))
    have : k = j := by omega
    have q : x = y := Prod.ext e.symm (by rw [hk, hj, this])
    rw [q]; exact hy
theorem pairs_eq : ∀ {a b : List (Int × Int)}, a.Pairwise (fun x y => x.1 < y.1) → b.Pairwise (fun x y => x.1 < y.1) → (∀ x, x ∈ a ↔ x ∈ b) → a = b
  | [], [], _, _, _ => rfl
  | [], y :: b, _, _, h => by have := (h y).mpr List.mem_cons_self; cases this
  | x :: a, [], _, _, h => by have := (h x).mp List.mem_cons_self; cases this
  | x :: a, y :: b, ha, hb, h => by
    rw [List.pairwise_cons] at ha hb
    have e : x = y := by
      have h1 := (h x).mp List.mem_cons_self
      have h2 := (h y).mpr List.mem_cons_self
      rcases List.mem_cons.mp h1 with e | e
      · exact e
      · rcases List.mem_cons.mp h2 with f | f
        · exact f.symm
        · have := hb.1 x e; have := ha.1 y f; omega
    subst e
    congr 1
    refine pairs_eq ha.2 hb.2 fun z => ?_
    have q := h z
    rw [List.mem_cons, List.mem_cons] at q
    constructor
    · intro hz
      rcases q.mp (.inr hz) with e | e
      · subst e; have := ha.1 z hz; omega
      · exact e
    · intro hz
      rcases q.mpr (.inr hz) with e | e
      · subst e; have := hb.1 z hz; omega
      · exact e
theorem parts_one {n : Int} {a b : List (Int × Int)} (ha : Parts n a) (hb : Parts n b) : a = b := pairs_eq ha.srt hb.srt fun x => by rw [part_iff ha, part_iff hb]
def rt (n : Nat) : Nat → Nat
  | 0 => 0
  | d + 1 => bif Nat.ble ((d + 1) * (d + 1)) n then d + 1 else rt n d
end Pt
namespace Eh
def G (a b : Int) : Int := (Int.gcd a b : Nat)
def ab (a : Int) : Int := if a < 0 then -a else a
theorem ab_nat (a : Int) : ab a = (a.natAbs : Int) := by unfold ab; split <;> omega
theorem G_ab (a b : Int) : G (ab a) (ab b) = G a b := by
  unfold G; rw [ab_nat, ab_nat]
  simp [Int.gcd]
theorem start (a b : Int) : 0 ≤ ab a ∧ 0 ≤ ab b ∧ G (ab a) (ab b) = G a b := by
  refine ⟨?_, ?_, G_ab a b⟩ <;> (rw [ab_nat]; omega)
theorem turn {a b g s : Int} (hg : 0 ≤ g) (hs : 0 ≤ s) (h : G g s = G a b) (ne : ¬ s = 0) :
    0 ≤ s ∧ 0 ≤ Int.fmod g s ∧ G s (Int.fmod g s) = G a b := by
  have e := Int.fmod_eq_emod_of_nonneg g hs
  refine ⟨hs, ?_, ?_⟩
  · rw [e]; exact Int.emod_nonneg _ ne
  · rw [e, ← h]
    unfold G
    congr 1
    obtain ⟨m, rfl⟩ := Int.eq_ofNat_of_zero_le hg
    obtain ⟨n, rfl⟩ := Int.eq_ofNat_of_zero_le hs
    rw [← Int.natCast_emod]
    show Nat.gcd n (m % n) = Nat.gcd m n
    rw [Nat.gcd_comm n, ← Nat.gcd_rec, Nat.gcd_comm]
theorem out {a b g s : Int} (hg : 0 ≤ g) (h : G g s = G a b) (z : s = 0) : g = G a b := by
  subst z
  unfold G at *
  have : Int.gcd g 0 = g.natAbs := Int.gcd_zero_right g
  omega
end Eh
namespace Eh
end Eh
namespace Eh
structure Bk (st n r c lr lc : Int) : Prop where
  g : G r lr = G st n
  x : ∃ x, r = st * c + n * x
  y : ∃ y, lr = st * lc + n * y
theorem bk0 {st n : Int} (hn : 0 < n) : 0 ≤ n ∧ 0 ≤ Int.fmod st n ∧ Int.fmod st n < n + 1 ∧ Bk st n n 0 (Int.fmod st n) 1 := by
  have e := Int.fmod_eq_emod_of_nonneg st (Int.le_of_lt hn)
  have h0 := Int.emod_nonneg st (show n ≠ 0 by omega)
  have h1 := Int.emod_lt_of_pos st hn
  refine ⟨by omega, by omega, by omega, ?_, ⟨1, ?_⟩, ⟨-(st / n), ?_⟩⟩
  · rw [e]; unfold G; congr 1
    have d := Int.emod_add_mul_ediv st n
    have q : Int.gcd n (st % n + n * (st / n)) = Int.gcd n (st % n) := Int.gcd_add_mul_left_right ..
    rw [d] at q
    rw [← q, Int.gcd_comm]
  · simp
  · rw [e, Int.mul_neg, Int.mul_one]
    have := Int.emod_add_mul_ediv st n
    omega
theorem bkt {st n r c lr lc : Int} (hr : 0 ≤ r) (h0 : 0 ≤ lr) (ne : ¬ lr = 0) (h : Bk st n r c lr lc) :
    0 ≤ lr ∧ 0 ≤ r - Int.fdiv r lr * lr ∧ Bk st n lr lc (r - Int.fdiv r lr * lr) (c - Int.fdiv r lr * lc) := by
  have e := Int.fdiv_eq_ediv_of_nonneg r h0
  rw [e]
  have m : r - r / lr * lr = r % lr := by
    have := Int.emod_add_mul_ediv r lr
    rw [Int.mul_comm] at this; omega
  rw [m]
  obtain ⟨hg, ⟨x, hx⟩, ⟨y, hy⟩⟩ := h
  have t := turn hr h0 hg ne
  have f := Int.fmod_eq_emod_of_nonneg r h0
  rw [f] at t
  refine ⟨h0, t.2.1, t.2.2, ⟨y, hy⟩, ⟨x - r / lr * y, ?_⟩⟩
  rw [← m, Int.mul_sub, Int.mul_sub]
  have a1 : st * (r / lr * lc) = r / lr * (st * lc) := by rw [Int.mul_left_comm]
  have a2 : n * (r / lr * y) = r / lr * (n * y) := by rw [Int.mul_left_comm]
  have a3 : r / lr * lr = r / lr * (st * lc) + r / lr * (n * y) := by rw [← Int.mul_add, ← hy]
  omega
theorem bkless {r lr : Int} (h0 : 0 ≤ lr) (ne : ¬ lr = 0) : (r - Int.fdiv r lr * lr).toNat < lr.toNat := by
  have e := Int.fdiv_eq_ediv_of_nonneg r h0
  rw [e]
  have m : r - r / lr * lr = r % lr := by
    have := Int.emod_add_mul_ediv r lr
    rw [Int.mul_comm] at this; omega
  rw [m]
  have := Int.emod_lt_of_pos r (show 0 < lr by omega)
  have := Int.emod_nonneg r ne
  omega
theorem bko {st n r c lr lc : Int} (hn : 0 < n) (hr : 0 ≤ r) (h : Bk st n r c lr lc) (z : lr = 0) (g1 : G st n = 1) :
    1 ≤ Int.fmod (c - 1) n + 1 ∧ Int.fmod (c - 1) n + 1 ≤ n ∧ Int.fmod (st * (Int.fmod (c - 1) n + 1) - 1) n = 0 := by
  obtain ⟨hg, ⟨x, hx⟩, _⟩ := h
  have r1 : r = 1 := by rw [← g1]; exact out hr hg z
  have e := Int.fmod_eq_emod_of_nonneg (c - 1) (Int.le_of_lt hn)
  have h0 := Int.emod_nonneg (c - 1) (show n ≠ 0 by omega)
  have h1 := Int.emod_lt_of_pos (c - 1) hn
  refine ⟨by omega, by omega, ?_⟩
  rw [Int.fmod_eq_emod_of_nonneg _ (Int.le_of_lt hn), e]
  apply Int.emod_eq_zero_of_dvd
  have d := Int.emod_add_mul_ediv (c - 1) n
  refine ⟨-x - st * ((c - 1) / n), ?_⟩
  have : (c - 1) % n + 1 = c - n * ((c - 1) / n) := by omega
  rw [this, Int.mul_sub, Int.mul_sub, Int.mul_neg]
  have a1 : st * (n * ((c - 1) / n)) = n * (st * ((c - 1) / n)) := by rw [Int.mul_left_comm]
  omega
end Eh
namespace Eh
theorem bk0E {st n : Int} (hn : 0 < n) : 0 ≤ st % n ∧ st % n < n ∧ Bk st n n 0 (st % n) 1 := by
  have h := bk0 (st := st) hn
  rw [Int.fmod_eq_emod_of_nonneg st (Int.le_of_lt hn)] at h
  exact ⟨h.2.1, Int.emod_lt_of_pos st hn, h.2.2.2⟩
theorem bktE {st n r c lr lc : Int} (hr : 0 ≤ r) (h0 : 0 ≤ lr) (ne : ¬ lr = 0) (h : Bk st n r c lr lc) :
    0 ≤ r - r / lr * lr ∧ (r - r / lr * lr) < lr ∧ (r - r / lr * lr).toNat < lr.toNat ∧ Bk st n lr lc (r - r / lr * lr) (c - r / lr * lc) := by
  have t := bkt hr h0 ne h
  have l := bkless (r := r) h0 ne
  rw [Int.fdiv_eq_ediv_of_nonneg r h0] at t l
  refine ⟨t.2.1, by omega, l, t.2.2⟩
theorem div_le {r lr : Int} (hr : 0 ≤ r) (h0 : 0 < lr) : 0 ≤ r / lr ∧ r / lr ≤ r := ⟨Int.ediv_nonneg hr (by omega), Int.ediv_le_self _ hr⟩
theorem bkoE {st n r c lr lc : Int} (hn : 0 < n) (hr : 0 ≤ r) (h : Bk st n r c lr lc) (z : lr = 0) (g1 : G st n = 1) :
    1 ≤ (c - 1) % n + 1 ∧ (c - 1) % n + 1 ≤ n ∧ (st * ((c - 1) % n + 1) - 1) % n = 0 := by
  have o := bko hn hr h z g1
  rw [Int.fmod_eq_emod_of_nonneg (c - 1) (Int.le_of_lt hn), Int.fmod_eq_emod_of_nonneg _ (Int.le_of_lt hn)] at o
  exact o
def us (n : Int) (i : Nat) : List Int := ((List.range i).map fun (j : Nat) => (1 + (j : Int))).filter fun k => decide (G k n = 1)
end Eh
set_option linter.all false
namespace Ld
def tab (n : Nat) (F : Int → Int) : List Int := (List.range n).map fun x : Nat => F x
theorem tab_len (n : Nat) (F : Int → Int) : (tab n F).length = n := by simp [tab]
theorem at_tab {n : Nat} {F : Int → Int} (hn : 0 < n) (hF : Per n F) (x : Int) : at' (tab n F) x = F x := by
  have e := at_get (a := tab n F) (x := x) (by rw [tab_len]; exact hn)
  rw [tab_len] at e
  unfold tab at e
  rw [List.getElem?_map, List.getElem?_range (hole_lt hn x)] at e
  have e' := Option.some.inj e
  unfold tab
  rw [← e']
  show F (((x % n).toNat : Nat) : Int) = _
  rw [hole_eq hn]
  exact hF.md x
theorem bez {st n : Int} : ∀ (m : Nat) (r c lr lc : Int), lr.toNat = m → 0 ≤ r → 0 ≤ lr → Eh.Bk st n r c lr lc → ∃ c' x, Eh.G st n = st * c' + n * x := by
  intro m
  induction m using Nat.strongRecOn with
  | ind m ih =>
    intro r c lr lc hm hr h0 h
    by_cases z : lr = 0
    · obtain ⟨hg, ⟨x, hx⟩, _⟩ := h
      have := Eh.out hr hg z
      exact ⟨c, x, by rw [← this]; exact hx⟩
    · have t := Eh.bktE hr h0 z h
      exact ih _ (by rw [← hm]; exact t.2.2.1) _ _ _ _ rfl h0 t.1 t.2.2.2
theorem inv_of {st : Int} {n : Nat} (hn : 0 < n) (g : Eh.G st n = 1) : ∃ v, (st * v) % n = 1 % n := by
  have b := Eh.bk0E (st := st) (n := n) (by omega)
  obtain ⟨c, x, e⟩ := bez _ _ _ _ _ rfl (by omega) b.1 b.2.2
  refine ⟨c, ?_⟩
  rw [g] at e
  rw [e, Int.add_mul_emod_self_left]
def turned (a : List Int) (far : Int) : List Int := tab a.length fun x => at' a (x - far)
theorem turned_len (a : List Int) (far : Int) : (turned a far).length = a.length := tab_len _ _
theorem per_sub {a : List Int} {n : Nat} (h : a.length = n) (c : Int) : Per n fun x => at' a (x - c) := fun x y e => at_per' h _ _ (by rw [Int.sub_emod, e, ← Int.sub_emod])
theorem at_turned {a : List Int} (hn : 0 < a.length) (far x : Int) : at' (turned a far) x = at' a (x - far) := at_tab hn (per_sub rfl far) x
structure Skp (n : Nat) (st : Int) (a o : List Int) : Prop where
  la : a.length = n
  lo : o.length = n
  at_ : ∀ x : Int, at' o (x * st) = at' a x
theorem Skp.val {n : Nat} {st v : Int} {a o : List Int} (h : Skp n st a o) (hv : (st * v) % n = 1 % n) (y : Int) : at' o y = at' a (y * v) := by
  rw [← h.at_]
  refine at_per' h.lo _ _ ?_
  rw [Int.mul_assoc, Int.mul_comm v st, Int.mul_emod, hv, ← Int.mul_emod, Int.mul_one]
theorem Skp.turned {n : Nat} (hn : 0 < n) {s : Int} {a l : List Int} (h : Skp n s a l) (far : Int) : Skp n s (turned a far) (turned l (far * s)) :=
  ⟨by rw [turned_len, h.la], by rw [turned_len, h.lo], fun x => by
    rw [at_turned (by rw [h.lo]; exact hn), at_turned (by rw [h.la]; exact hn), ← Int.sub_mul, h.at_]⟩
end Ld
set_option linter.all false
namespace Ld
def finF (a : List Int) (q : Nat) (x : Int) : Int := if x % q = 0 then at' a (x / q) else 0
def fin (a : List Int) (q : Nat) : List Int := tab (q * a.length) (finF a q)
theorem fin_len (a : List Int) (q : Nat) : (fin a q).length = q * a.length := tab_len _ _
theorem div_mod {n q : Nat} (hq : 0 < q) {x y : Int} (h : x % ((q * n : Nat) : Int) = y % ((q * n : Nat) : Int)) : x % q = y % q ∧ (x / q) % n = (y / q) % n := by
  have d : ((q : Nat) : Int) ∣ ((q * n : Nat) : Int) := by rw [Int.natCast_mul]; exact Int.dvd_mul_right _ _
  refine ⟨?_, ?_⟩
  · rw [← Int.emod_emod_of_dvd x d, h, Int.emod_emod_of_dvd y d]
  · have e : ((q * n : Nat) : Int) ∣ x - y := Int.dvd_of_emod_eq_zero (Int.emod_eq_emod_iff_emod_sub_eq_zero.mp h)
    obtain ⟨t, ht⟩ := e
    rw [Int.natCast_mul] at ht
    have ex : x = y + q * (n * t) := by rw [← Int.mul_assoc]; omega
    rw [ex, Int.add_mul_ediv_left _ _ (by omega), Int.add_mul_emod_self_left]
theorem per_fin {a : List Int} {q n : Nat} (ha : a.length = n) (hq : 0 < q) : Per (q * n) (finF a q) := fun x y h => by
  have d := div_mod hq h
  unfold finF
  rw [d.1, at_per' ha _ _ d.2]
theorem at_fin {a : List Int} {q : Nat} (hn : 0 < a.length) (hq : 0 < q) (x : Int) : at' (fin a q) x = if x % q = 0 then at' a (x / q) else 0 := at_tab (Nat.mul_pos hq hn) (per_fin rfl hq) x
theorem S_split (F : Int → Int) (m : Nat) : ∀ k : Nat, S (m + k) F = S m F + S k fun j => F (m + j)
  | 0 => by simp [S]
  | k + 1 => by
    show S (m + k) F + F ((m + k : Nat) : Int) = _
    rw [S_split F m k]
    simp only [S]
    rw [Int.natCast_add]; omega
theorem S_mult {q : Nat} (hq : 0 < q) (G : Int → Int) : ∀ n : Nat, S (q * n) (fun j => if j % q = 0 then G j else 0) = S n fun i => G (q * i)
  | 0 => rfl
  | n + 1 => by
    rw [Nat.mul_succ, S_split, S_mult hq G n]
    simp only [S]
    congr 1
    have e : S q (fun j => if (((q * n : Nat) : Int) + j) % q = 0 then G (((q * n : Nat) : Int) + j) else 0) = S q (fun j => if j = 0 then G (((q * n : Nat) : Int) + j) else 0) := S_congr fun j hj => by
      have : (((q * n : Nat) : Int) + j) % q = j := by
        rw [Int.natCast_mul, Int.add_comm, Int.add_mul_emod_self_left, Int.emod_eq_of_lt (by omega) (by omega)]
      rw [this]
    rw [e, S_one (Int.le_refl 0), if_pos (by omega), Int.add_zero, Int.natCast_mul]
theorem inv_down {st v : Int} {n q : Nat} (h : (st * v) % ((q * n : Nat) : Int) = 1 % ((q * n : Nat) : Int)) : (st * v) % n = 1 % n ∧ (st * v) % q = 1 % q := by
  have d1 : ((n : Nat) : Int) ∣ ((q * n : Nat) : Int) := by rw [Int.natCast_mul]; exact Int.dvd_mul_left _ _
  have d2 : ((q : Nat) : Int) ∣ ((q * n : Nat) : Int) := by rw [Int.natCast_mul]; exact Int.dvd_mul_right _ _
  exact ⟨by rw [← Int.emod_emod_of_dvd _ d1, h, Int.emod_emod_of_dvd _ d1], by rw [← Int.emod_emod_of_dvd _ d2, h, Int.emod_emod_of_dvd _ d2]⟩
theorem Skp.fin {n q : Nat} (hn : 0 < n) (hq : 0 < q) {st v : Int} {a o : List Int} (h : Skp n st a o) (hv : (st * v) % ((q * n : Nat) : Int) = 1 % ((q * n : Nat) : Int)) : Skp (q * n) st (fin a q) (fin o q) :=
  ⟨by rw [fin_len, h.la], by rw [fin_len, h.lo], fun x => by
    rw [at_fin (by rw [h.lo]; exact hn) hq, at_fin (by rw [h.la]; exact hn) hq]
    have iq := (inv_down hv).2
    by_cases z : x % q = 0
    · obtain ⟨y, rfl⟩ := Int.dvd_of_emod_eq_zero z
      rw [if_pos z, if_pos (by rw [Int.mul_assoc, Int.mul_emod_right]), Int.mul_assoc, Int.mul_ediv_cancel_left _ (by omega), Int.mul_ediv_cancel_left _ (by omega), h.at_]
    · rw [if_neg z, if_neg fun w => z ?_]
      have : (x * st * v) % q = x % q := by rw [Int.mul_assoc, Int.mul_emod, iq, ← Int.mul_emod, Int.mul_one]
      rw [← this, Int.mul_emod, w, Int.zero_mul, Int.zero_emod]⟩
end Ld
set_option linter.all false
namespace Pl
def ds (n : Nat) : Nat → List Int
  | 0 => []
  | k + 1 => ds n k ++ (if ((k : Int) + 1) ∣ (n : Int) then [(k : Int) + 1] else [])
noncomputable def pv (n : Nat) (far : Int) : Int := (((ds n n).filter fun d => decide (d ∣ far)).map fun d => d * Pt.mu (n / d)).sum
theorem S_const (c : Int) : ∀ n : Nat, Ld.S n (fun _ => c) = n * c
  | 0 => by simp [Ld.S]
  | n + 1 => by simp only [Ld.S]; rw [S_const c n, Int.natCast_succ, Int.add_mul, Int.one_mul]
theorem S_sum (F : Int → Int) : ∀ n : Nat, ((List.range n).map fun j : Nat => F j).sum = Ld.S n F
  | 0 => rfl
  | n + 1 => by rw [List.range_succ, List.map_append, List.sum_append, S_sum F n]; simp [Ld.S]
end Pl
set_option linter.all false
namespace Rs
open Pt (Parts Prd Prm Row IsPow)
theorem cdvd {a b t : Int} (h : Nat.Coprime a.natAbs b.natAbs) (ha : a ∣ t) (hb : b ∣ t) : a * b ∣ t := by
  rw [← Int.natAbs_dvd_natAbs] at ha hb ⊢
  rw [Int.natAbs_mul]
  exact Nat.Coprime.mul_dvd_of_dvd_of_dvd h ha hb
theorem cdvd_mul {a b t : Int} (h : Nat.Coprime a.natAbs b.natAbs) (hd : a ∣ b * t) : a ∣ t := by
  rw [← Int.natAbs_dvd_natAbs] at hd ⊢
  rw [Int.natAbs_mul] at hd
  exact Nat.Coprime.dvd_of_dvd_mul_left h hd
theorem cop_pow {p m : Int} (hp : Prm p) (h : ¬ p ∣ m) (e : Nat) : Nat.Coprime (p ^ e).natAbs m.natAbs := by
  rw [Int.natAbs_pow]
  exact Nat.Coprime.pow_left e (Pt.copr hp h)
theorem part_cof {n : Int} {ps : List (Int × Int)} (hp : Parts n ps) {x : Int × Int} (hx : x ∈ ps) : ∃ m, n = x.2 * m ∧ n / x.2 = m ∧ ¬ x.1 ∣ m ∧ 2 ≤ x.2 ∧ x.1 ∣ x.2 ∧ Nat.Coprime x.2.natAbs m.natAbs := by
  obtain ⟨m, e, nd, _⟩ := Pt.Prd_split hx hp.srt hp.row
  rw [hp.prd] at e
  have row := hp.row x hx
  obtain ⟨k, hk⟩ := row.pw
  have l := Pt.row_le row
  refine ⟨m, e, by rw [e]; exact Int.mul_ediv_cancel_left _ (by omega), nd, by omega, by rw [hk, Int.pow_succ]; exact Int.dvd_mul_left _ _, ?_⟩
  rw [hk]; exact cop_pow row.pr nd _
def tot (n : Int) (l : List ((Int × Int) × Int)) : Int := (l.map fun z => z.2 * (n / z.1.2)).sum
theorem len_parts {n : Int} {ps : List (Int × Int)} (hp : Pt.Parts n ps) : (ps.length : Int) ≤ n := by
  have key : ∀ l : List (Int × Int), (∀ x ∈ l, Pt.Row x) → (l.length : Int) ≤ Pt.Prd l := by
    intro l
    induction l with
    | nil => intro _; simp [Pt.Prd]
    | cons x r ih =>
      intro h
      have a := ih fun y hy => h y (List.mem_cons_of_mem _ hy)
      have b := Pt.row_le (h x List.mem_cons_self)
      have c := Pt.Prd_pos r fun y hy => h y (List.mem_cons_of_mem _ hy)
      simp only [Pt.Prd, List.length_cons]
      have := Int.mul_le_mul_of_nonneg_right (show 2 ≤ x.2 by omega) (show 0 ≤ Pt.Prd r by omega)
      omega
  have := key ps hp.row
  rwa [hp.prd] at this
end Rs
set_option linter.all false
namespace Ps
open Pt (Prm Parts Row Prd)
def dot : List Int → List Int → Int
  | c :: cs, p :: pl => c * p + dot cs pl
  | _, _ => 0
def Can (pl : List Int) (many : Int) : Prop := ∃ cs : List Int, cs.length = pl.length ∧ (∀ c ∈ cs, 0 ≤ c) ∧ dot cs pl = many
theorem can0 {many : Int} : Can [] many ↔ many = 0 := by
  constructor
  · rintro ⟨cs, hl, _, e⟩
    cases cs with
    | nil => exact e.symm
    | cons c r => simp at hl
  · intro e; exact ⟨[], rfl, by simp, e.symm⟩
theorem can1 {p many : Int} (hp : 2 ≤ p) : Can [p] many ↔ 0 ≤ many ∧ many % p = 0 := by
  constructor
  · rintro ⟨cs, hl, h0, e⟩
    match cs, hl with
    | [c], _ =>
      have c0 := h0 c (by simp)
      have e' : c * p + 0 = many := e
      rw [Int.add_zero] at e'
      rw [← e']
      exact ⟨Int.mul_nonneg c0 (by omega), Int.mul_emod_left _ _⟩
  · rintro ⟨m0, d⟩
    refine ⟨[many / p], rfl, fun c hc => ?_, ?_⟩
    · rw [List.mem_singleton.mp hc]; exact Int.ediv_nonneg m0 (by omega)
    · show many / p * p + 0 = many
      rw [Int.add_zero]; exact Int.ediv_mul_cancel (Int.dvd_of_emod_eq_zero d)
theorem can2 {p r many : Int} : Can [p, r] many ↔ ∃ a b : Int, 0 ≤ a ∧ 0 ≤ b ∧ a * p + b * r = many := by
  constructor
  · rintro ⟨cs, hl, h0, e⟩
    match cs, hl with
    | [a, b], _ =>
      have e' : a * p + (b * r + 0) = many := e
      exact ⟨a, b, h0 a (by simp), h0 b (by simp), by omega⟩
  · rintro ⟨a, b, a0, b0, e⟩
    refine ⟨[a, b], rfl, fun c hc => ?_, ?_⟩
    · rcases List.mem_cons.mp hc with w | w
      · rw [w]; exact a0
      · rw [List.mem_singleton.mp w]; exact b0
    · show a * p + (b * r + 0) = many
      omega
theorem can_pos {p r many : Int} (hp : 2 ≤ p) (hr : 2 ≤ r) (h : Can [p, r] many) : 0 ≤ many := by
  obtain ⟨a, b, a0, b0, e⟩ := can2.mp h
  have := Int.mul_nonneg a0 (show 0 ≤ p by omega)
  have := Int.mul_nonneg b0 (show 0 ≤ r by omega)
  omega
theorem can_few {p r many : Int} (hp : 2 ≤ p) (hr : 2 ≤ r) : (∃ f : Nat, (f : Int) < r ∧ f * p ≤ many ∧ (many - f * p) % r = 0) ↔ Can [p, r] many := by
  rw [can2]
  constructor
  · rintro ⟨f, fr, fm, d⟩
    refine ⟨f, (many - f * p) / r, by omega, Int.ediv_nonneg (by omega) (by omega), ?_⟩
    rw [Int.ediv_mul_cancel (Int.dvd_of_emod_eq_zero d)]; omega
  · rintro ⟨a, b, a0, b0, e⟩
    have f0 := Int.emod_nonneg a (show r ≠ 0 by omega)
    have f1 := Int.emod_lt_of_pos a (show 0 < r by omega)
    have ad := Int.emod_add_mul_ediv a r
    have q0 := Int.ediv_nonneg a0 (show 0 ≤ r by omega)
    refine ⟨(a % r).toNat, by omega, ?_, ?_⟩
    · rw [Int.toNat_of_nonneg f0]
      have le : a % r ≤ a := by
        have := Int.mul_nonneg (show 0 ≤ r by omega) q0
        omega
      have := Int.mul_le_mul_of_nonneg_right le (show 0 ≤ p by omega)
      have := Int.mul_nonneg b0 (show 0 ≤ r by omega)
      omega
    · rw [Int.toNat_of_nonneg f0]
      refine Int.emod_eq_zero_of_dvd ⟨a / r * p + b, ?_⟩
      have : a * p = (a % r) * p + r * (a / r) * p := by rw [← Int.add_mul, ad]
      rw [Int.mul_add, ← Int.mul_assoc, Int.mul_comm r b]
      omega
theorem can_left {p r many u : Int} (hp : 2 ≤ p) (hr : 2 ≤ r) (hu : (r * u - 1) % p = 0) : (many - (many * u % p) * r) % p = 0 ∧ ((0 ≤ many - (many * u % p) * r) ↔ Can [p, r] many) := by
  have c0 := Int.emod_nonneg (many * u) (show p ≠ 0 by omega)
  have c1 := Int.emod_lt_of_pos (many * u) (show 0 < p by omega)
  have d := Int.dvd_of_emod_eq_zero hu
  have cd : p ∣ many * u - many * u % p := Int.dvd_self_sub_emod
  have dv : p ∣ many - (many * u % p) * r := by
    have a1 : p ∣ many * (r * u - 1) := Int.dvd_mul_of_dvd_right d
    have a2 : p ∣ (many * u - many * u % p) * r := Int.dvd_mul_of_dvd_left cd
    have : many - (many * u % p) * r = (many * u - many * u % p) * r - many * (r * u - 1) := by
      rw [Int.sub_mul, Int.mul_sub, Int.mul_one, Int.mul_assoc, Int.mul_comm u r]; omega
    rw [this]; exact Int.dvd_sub a2 a1
  refine ⟨Int.emod_eq_zero_of_dvd dv, ?_⟩
  rw [can2]
  constructor
  · intro l0
    refine ⟨(many - (many * u % p) * r) / p, many * u % p, Int.ediv_nonneg l0 (by omega), c0, ?_⟩
    rw [Int.ediv_mul_cancel dv]; omega
  · rintro ⟨a, b, a0, b0, e⟩
    have eb : many * u % p = b % p := by
      refine Int.emod_eq_emod_iff_emod_sub_eq_zero.mpr (Int.emod_eq_zero_of_dvd ?_)
      have a1 : p ∣ b * (r * u - 1) := Int.dvd_mul_of_dvd_right d
      have a2 : p ∣ a * p * u := Int.dvd_mul_of_dvd_left (Int.dvd_mul_left _ _)
      have : many * u - b = a * p * u + b * (r * u - 1) := by
        rw [← e, Int.add_mul, Int.mul_sub, Int.mul_one, Int.mul_assoc b r u]; omega
      rw [this]; exact Int.dvd_add a2 a1
    have le : b % p ≤ b := by
      have := Int.emod_add_mul_ediv b p
      have := Int.mul_nonneg (show 0 ≤ p by omega) (Int.ediv_nonneg b0 (show 0 ≤ p by omega))
      omega
    have := Int.mul_le_mul_of_nonneg_right le (show 0 ≤ r by omega)
    have := Int.mul_nonneg a0 (show 0 ≤ p by omega)
    rw [eb]
    omega
theorem parts_sub {n : Int} {ps qs : List (Int × Int)} (h : Parts n ps) (s : qs.Sublist ps) : Parts (Prd qs) qs := ⟨rfl, fun x hx => h.row x (s.subset hx), h.srt.sublist s⟩
theorem Prd_app : ∀ a b : List (Int × Int), Prd (a ++ b) = Prd a * Prd b
  | [], b => by simp [Prd]
  | x :: a, b => by simp only [List.cons_append, Prd]; rw [Prd_app a b, Int.mul_assoc]
theorem row_no {x : Int × Int} (hx : Row x) {qs : List (Int × Int)} (hq : ∀ y ∈ qs, Row y) (ne : ∀ y ∈ qs, y.1 ≠ x.1) : ¬ x.1 ∣ Prd qs := fun d => by
  obtain ⟨y, hy, e⟩ := Pt.prm_Prd hx.pr qs hq d
  exact ne y hy e
theorem G_pr {p r : Int} (hp : Prm p) (hr : Prm r) (ne : ¬ p = r) : Eh.G r p = 1 := by
  unfold Eh.G
  show ((Int.gcd r p : Nat) : Int) = 1
  have nd : ¬ p ∣ r := fun d => ne (Pt.prm_dvd hp hr d)
  have := Pt.copr hp nd
  have e : Int.gcd r p = 1 := by rw [Int.gcd_comm]; exact this
  rw [e]; rfl
end Ps
set_option linter.all false
namespace Rg
def rv (n : Int) (t : Int × Int × Int) (x : Int) : Int := if (x - t.2.1) % (n / t.1) = 0 then t.2.2 else 0
def rvs (n : Int) (rows : List (Int × Int × Int)) (x : Int) : Int := (rows.map fun t => rv n t x).sum
theorem rvs_snoc (n : Int) (rows : List (Int × Int × Int)) (t : Int × Int × Int) (x : Int) : rvs n (rows ++ [t]) x = rvs n rows x + rv n t x := by
  unfold rvs; rw [List.map_append, List.sum_append]; simp
theorem lay0 {n st : Nat} (hn : 0 < n) (hst : 0 < st) (hole many : Int) (a : List Int) : ∀ x : Int, Ld.at' a x = Ld.at' a x + (if (x - hole) % st = 0 ∧ (x % n) / st < ((0 : Nat) : Int) then many else 0) := fun x => by
  rw [if_neg, Int.add_zero]
  rintro ⟨_, z⟩
  have := Int.ediv_nonneg (Int.emod_nonneg x (show (n : Int) ≠ 0 by omega)) (show (0 : Int) ≤ st by omega)
  omega
theorem lay1 {n st p i : Nat} (hst : 0 < st) (hnp : n = p * st) (hi : i < p) {hole many : Int} {a b : List Int} (hb : b.length = n)
    (h : ∀ x : Int, Ld.at' b x = Ld.at' a x + (if (x - hole) % st = 0 ∧ (x % n) / st < (i : Int) then many else 0)) :
    0 ≤ hole % st + i * st ∧ hole % st + i * st < (n : Int) ∧ ∀ x : Int, Ld.at' (b.set (hole % st + i * st).toNat (Ld.at' b (hole % st + i * st) + many)) x = Ld.at' a x + (if (x - hole) % st = 0 ∧ (x % n) / st < ((i + 1 : Nat) : Int) then many else 0) := by
  have l0 := Int.emod_nonneg hole (show (st : Int) ≠ 0 by omega)
  have l1 := Int.emod_lt_of_pos hole (show (0 : Int) < st by omega)
  have hn : 0 < n := by rw [hnp]; exact Nat.mul_pos (by omega) hst
  have is0 : (0 : Int) ≤ (i : Int) * st := Int.mul_nonneg (by omega) (by omega)
  have is1 : ((i : Int) + 1) * st ≤ n := by
    rw [hnp, Int.natCast_mul]
    exact Int.mul_le_mul_of_nonneg_right (by omega) (by omega)
  rw [Int.add_mul, Int.one_mul] at is1
  have y0 : 0 ≤ hole % st + i * st := by omega
  have y1 : hole % st + i * st < (n : Int) := by omega
  have ym : (hole % st + i * st) % n = hole % st + i * st := Int.emod_eq_of_lt y0 y1
  have sn : (st : Int) ∣ n := ⟨p, by rw [hnp, Int.natCast_mul, Int.mul_comm]⟩
  have ys : (hole % st + i * st) / st = i := by rw [Int.add_mul_ediv_right _ _ (by omega), Int.ediv_eq_zero_of_lt l0 l1, Int.zero_add]
  refine ⟨y0, y1, fun x => ?_⟩
  have e := Ld.at_set hb hn (hole % st + i * st) (Ld.at' b (hole % st + i * st) + many) x
  rw [ym] at e
  rw [e]
  by_cases c : x % n = hole % st + i * st
  · have c1 : (x - hole) % st = 0 := by
      have : x % st = hole % st := by
        rw [← Int.emod_emod_of_dvd x sn, c, Int.add_mul_emod_self_right, Int.emod_emod_of_dvd _ (Int.dvd_refl _)]
      rw [Int.sub_emod, this]; simp
    rw [if_pos c, if_pos ⟨c1, by rw [c, ys]; omega⟩]
    have ex : Ld.at' b (hole % st + i * st) = Ld.at' b x := Ld.at_per' hb _ _ (by rw [ym, c])
    rw [ex, h, if_neg]
    · omega
    · rintro ⟨_, z⟩
      rw [c, ys] at z; omega
  · rw [if_neg c, h]
    by_cases d : (x - hole) % st = 0 ∧ (x % n) / st < (i : Int)
    · rw [if_pos d, if_pos ⟨d.1, by have := d.2; omega⟩]
    · rw [if_neg d, if_neg]
      rintro ⟨z1, z2⟩
      have zi : (x % n) / st = i := by
        rcases Int.lt_or_le ((x % n) / st) i with w | w
        · exact absurd ⟨z1, w⟩ d
        · omega
      have zm : (x % n) % st = hole % st := by
        rw [Int.emod_emod_of_dvd x sn]
        have := Int.emod_eq_emod_iff_emod_sub_eq_zero.mpr z1
        exact this
      have := Int.emod_add_mul_ediv (x % n) st
      rw [zi, zm, Int.mul_comm] at this
      exact c this.symm
theorem lay2 {n st p : Nat} (hst : 0 < st) (hp : 0 < p) (hnp : n = p * st) {hole many : Int} {a b : List Int}
    (h : ∀ x : Int, Ld.at' b x = Ld.at' a x + (if (x - hole) % st = 0 ∧ (x % n) / st < (p : Int) then many else 0)) : ∀ x : Int, Ld.at' b x = Ld.at' a x + (if (x - hole) % st = 0 then many else 0) := fun x => by
  rw [h]
  have hn : 0 < n := by rw [hnp]; exact Nat.mul_pos hp hst
  have lt : (x % n) / st < (p : Int) := by
    refine Int.ediv_lt_of_lt_mul (by omega) ?_
    have := Int.emod_lt_of_pos x (show (0 : Int) < n by omega)
    rw [hnp, Int.natCast_mul] at this ⊢
    exact this
  by_cases c : (x - hole) % st = 0
  · rw [if_pos ⟨c, lt⟩, if_pos c]
  · rw [if_neg (fun z => c z.1), if_neg c]
theorem cnt_ring {n st p : Nat} (hst : 0 < st) (hp : 0 < p) (hnp : n = p * st) (hole : Int) : hole % st < (n : Int) ∧ (((n : Int) - hole % st - 1) / st + 1).toNat = p := by
  have l0 := Int.emod_nonneg hole (show (st : Int) ≠ 0 by omega)
  have l1 := Int.emod_lt_of_pos hole (show (0 : Int) < st by omega)
  have e : (n : Int) = p * st := by rw [hnp, Int.natCast_mul]
  have s1 : (st : Int) ≤ n := by rw [e]; have := Int.mul_le_mul_of_nonneg_right (show (1 : Int) ≤ p by omega) (show (0 : Int) ≤ st by omega); omega
  refine ⟨by omega, ?_⟩
  have q : ((n : Int) - hole % st - 1) / st = p - 1 := by
    have r : (n : Int) - hole % st - 1 = (st - 1 - hole % st) + (p - 1) * st := by rw [Int.sub_mul, Int.one_mul, e]; omega
    rw [r, Int.add_mul_ediv_right _ _ (by omega), Int.ediv_eq_zero_of_lt (by omega) (by omega), Int.zero_add]
  rw [q]; omega
theorem step_of {n : Nat} {p : Int} (hn : 1 ≤ n) (hp : 2 ≤ p) (d : p ∣ n) : ∃ st : Nat, (n : Int) / p = st ∧ 0 < st ∧ n = p.toNat * st ∧ p.toNat ≤ n := by
  obtain ⟨e, he⟩ := d
  have e1 : 1 ≤ e := by
    rcases Int.lt_or_le e 1 with z | z
    · have := Int.mul_le_mul_of_nonneg_left (show e ≤ 0 by omega) (show 0 ≤ p by omega); omega
    · exact z
  have q : (n : Int) / p = e := by rw [he]; exact Int.mul_ediv_cancel_left _ (by omega)
  have f : n = p.toNat * e.toNat := by
    have : ((p.toNat * e.toNat : Nat) : Int) = p * e := by rw [Int.natCast_mul, Int.toNat_of_nonneg (by omega), Int.toNat_of_nonneg (by omega)]
    omega
  exact ⟨e.toNat, by rw [q, Int.toNat_of_nonneg (by omega)], by omega, f, by rw [f]; exact Nat.le_mul_of_pos_right _ (by omega)⟩
end Rg
namespace Rg
end Rg
set_option linter.all false
namespace Rt
open Pt (Parts)
structure Pc (n : Nat) (p q u : Int) : Prop where
  n1 : 1 ≤ n
  p2 : 2 ≤ p
  q2 : 1 ≤ q
  pq : p ∣ q
  qn : q ∣ (n : Int)
  le : ((n : Int) / q * u - 1) % q = 0
theorem Pc.mk' {n : Nat} {ps : List (Int × Int)} (hn : 1 ≤ n) (hp : Parts n ps) {x : Int × Int} (hx : x ∈ ps) {u : Int} (hu : ((n : Int) / x.2 * u - 1) % x.2 = 0) : Pc n x.1 x.2 u := by
  obtain ⟨m, e, e', _, q2, d, _⟩ := Rs.part_cof hp hx
  exact ⟨hn, (hp.row x hx).pr.1, by omega, d, ⟨m, e⟩, hu⟩
section
variable {n : Nat} {p q u : Int}
def top (p q u k : Int) : Int := (k * u % q) / (q / p)
theorem Pc.m (h : Pc n p q u) : ∃ m, q = p * m ∧ q / p = m ∧ 1 ≤ m := by
  obtain ⟨m, e⟩ := h.pq
  have hp := h.p2
  have hq := h.q2
  refine ⟨m, e, by rw [e]; exact Int.mul_ediv_cancel_left _ (by omega), ?_⟩
  rcases Int.lt_or_le m 1 with z | z
  · have := Int.mul_le_mul_of_nonneg_left (show m ≤ 0 by omega) (show 0 ≤ p by omega); omega
  · exact z
theorem Pc.cof (h : Pc n p q u) : ∃ c, (n : Int) = q * c ∧ (n : Int) / q = c ∧ (n : Int) / p = c * (q / p) := by
  obtain ⟨c, e⟩ := h.qn
  obtain ⟨m, em, em', m1⟩ := h.m
  have hp := h.p2
  have hq := h.q2
  refine ⟨c, e, by rw [e]; exact Int.mul_ediv_cancel_left _ (by omega), ?_⟩
  rw [em', e, em, Int.mul_assoc, Int.mul_ediv_cancel_left _ (by omega), Int.mul_comm]
theorem Pc.step (h : Pc n p q u) (k t : Int) : ((k + t * ((n : Int) / p)) * u) % q = (k * u + t * (q / p)) % q := by
  obtain ⟨c, e, e1, e2⟩ := h.cof
  have d : q ∣ c * u - 1 := by have := Int.dvd_of_emod_eq_zero h.le; rwa [e1] at this
  refine Int.emod_eq_emod_iff_emod_sub_eq_zero.mpr (Int.emod_eq_zero_of_dvd ?_)
  rw [e2]
  have : (k + t * (c * (q / p))) * u - (k * u + t * (q / p)) = t * (q / p) * (c * u - 1) := by
    rw [Int.add_mul, Int.mul_sub, Int.mul_one]
    have : t * (c * (q / p)) * u = t * (q / p) * (c * u) := by
      rw [Int.mul_assoc, Int.mul_assoc t (q / p), Int.mul_comm c (q / p), Int.mul_assoc]
    omega
  rw [this]
  exact Int.dvd_mul_of_dvd_right d
def dl (n : Nat) (p q u k : Int) : Int := k + (p - 1 - top p q u k) * ((n : Int) / p)
def E (n : Nat) (p q u : Int) (f : Int → Int) : Int → Int := fun k => f k - f (dl n p q u k)
def Inv (n : Nat) (p : Int) (f : Int → Int) : Prop := ∀ k t : Int, f (k + t * ((n : Int) / p)) = f k
end
section
variable {n : Nat} {p q u p' q' u' : Int}
end
def R (n : Nat) : List ((Int × Int) × Int) → (Int → Int) → Int → Int
  | [], f => f
  | z :: l, f => R n l (E n z.1.1 z.1.2 z.2 f)
structure Ld' (n : Nat) (ps : List (Int × Int)) (l : List ((Int × Int) × Int)) : Prop where
  n1 : 1 ≤ n
  hp : Parts n ps
  map : l.map Prod.fst = ps
  le : ∀ z ∈ l, ((n : Int) / z.1.2 * z.2 - 1) % z.1.2 = 0
theorem Ld'.pc {n : Nat} {ps : List (Int × Int)} {l : List ((Int × Int) × Int)} (h : Ld' n ps l) {z : (Int × Int) × Int} (hz : z ∈ l) : Pc n z.1.1 z.1.2 z.2 :=
  Pc.mk' h.n1 h.hp (by rw [← h.map]; exact List.mem_map.mpr ⟨z, hz, rfl⟩) (h.le z hz)
end Rt
set_option linter.all false
namespace Rt
open Pt (Parts)
section
variable {n : Nat} {p q u : Int}
def drs (p q u : Int) : Nat → List Int
  | 0 => []
  | i + 1 => drs p q u i ++ (if top p q u i = p - 1 then [(i : Int)] else [])
def D (n : Nat) (p q u k : Int) : Int := dl n p q u k % n
theorem rv_neg (n p h m x : Int) : Rg.rv n (p, h, -m) x = - Rg.rv n (p, h, m) x := by
  unfold Rg.rv
  dsimp only
  split <;> simp
structure PI (n : Nat) (p q u : Int) (f : Int → Int) (j : Nat) (b : List Int) : Prop where
  len : b.length = n
  at_ : ∀ x, Ld.at' b x = f x - (if D n p q u x ∈ (drs p q u n).take j then f (dl n p q u x) else 0)
end
structure RowsOk (n : Nat) (P : Int → Int → Prop) (a b : List Int) (rows : List (Int × Int × Int)) : Prop where
  ok : ∀ t ∈ rows, P t.1 t.2.1 ∧ 0 ≤ t.2.1 ∧ t.2.1 < n ∧ ¬ t.2.2 = 0
  nd : (rows.map fun t => (t.1, t.2.1)).Nodup
  eq : ∀ x, Ld.at' a x = Ld.at' b x + Rg.rvs n rows x
theorem RowsOk.weak {n : Nat} {P Q : Int → Int → Prop} {a b : List Int} {rows : List (Int × Int × Int)} (h : RowsOk n P a b rows) (w : ∀ x y, P x y → Q x y) : RowsOk n Q a b rows :=
  ⟨fun t ht => let ⟨a, b⟩ := h.ok t ht; ⟨w _ _ a, b⟩, h.nd, h.eq⟩
theorem RowsOk.snoc {n : Nat} {P Q : Int → Int → Prop} {a b b' : List Int} {rows : List (Int × Int × Int)} {p k m : Int} (h : RowsOk n P a b rows) (w : ∀ x y, P x y → Q x y) (q : Q p k) (no : ∀ x y, P x y → ¬ (x = p ∧ y = k)) (k0 : 0 ≤ k) (k1 : k < n) (mz : ¬ m = 0)
    (hb : ∀ x, Ld.at' b' x = Ld.at' b x + Rg.rv n (p, k, -m) x) : RowsOk n Q a b' (rows ++ [(p, k, m)]) := by
  refine ⟨fun t ht => ?_, ?_, fun x => ?_⟩
  · rcases List.mem_append.mp ht with z | z
    · obtain ⟨a, b⟩ := h.ok t z; exact ⟨w _ _ a, b⟩
    · rw [List.mem_singleton.mp z]; exact ⟨q, k0, k1, mz⟩
  · rw [List.map_append, List.nodup_append]
    refine ⟨h.nd, by simp, fun x hx y hy e => ?_⟩
    obtain ⟨t, ht, et⟩ := List.mem_map.mp hx
    have ey : y = (p, k) := by simpa using hy
    refine no _ _ (h.ok t ht).1 ?_
    rw [e, ey] at et
    exact ⟨congrArg Prod.fst et, congrArg Prod.snd et⟩
  · rw [Rg.rvs_snoc, hb, h.eq, rv_neg]; omega
end Rt
set_option linter.all false
namespace Sk
open Pt (Prm Parts Row Prd)
theorem per_mul {f : Int → Int} {s : Int} (h : ∀ x, f (x + s) = f x) (x u : Int) : f (x + u * s) = f x := by
  have nat : ∀ (k : Nat) (x : Int), f (x + k * s) = f x := by
    intro k
    induction k with
    | zero => intro x; rw [show x + ((0 : Nat) : Int) * s = x by grind]
    | succ k ih => intro x; rw [show x + ((k + 1 : Nat) : Int) * s = (x + k * s) + s by grind, h, ih]
  rcases Int.le_total 0 u with c | c
  · have e : u = ((u.toNat : Nat) : Int) := by omega
    rw [e]; exact nat _ x
  · have e : u = -(((-u).toNat : Nat) : Int) := by omega
    have := nat (-u).toNat (x + u * s)
    rw [← this]
    congr 1
    grind
def Sq (s t : Int) (a : Int → Int) : Prop := ∀ x, a x - a (x + s) - a (x + t) + a (x + s + t) = 0
theorem Sq.rect {s t : Int} {a : Int → Int} (h : Sq s t a) (b u v : Int) : a (b + u * s + v * t) = a (b + u * s) + a (b + v * t) - a b := by
  have f1 : ∀ x, (fun x => a (x + t) - a x) (x + s) = (fun x => a (x + t) - a x) x := fun x => by
    have := h x
    show a (x + s + t) - a (x + s) = a (x + t) - a x
    omega
  have g1 : ∀ x, (fun x => a (x + u * s) - a x) (x + t) = (fun x => a (x + u * s) - a x) x := fun x => by
    have e : a (x + u * s + t) - a (x + u * s) = a (x + t) - a x := per_mul (f := fun x => a (x + t) - a x) f1 x u
    show a (x + t + u * s) - a (x + t) = a (x + u * s) - a x
    rw [show x + t + u * s = x + u * s + t by grind]
    omega
  have e : a (b + v * t + u * s) - a (b + v * t) = a (b + u * s) - a b := per_mul (f := fun x => a (x + u * s) - a x) g1 b v
  rw [show b + u * s + v * t = b + v * t + u * s by grind]
  omega
theorem sum_zero (f : Nat → Int) : ∀ p : Nat, (∀ k < p, f k = 0) → ((List.range p).map f).sum = 0
  | 0, _ => rfl
  | p + 1, h => by rw [List.range_succ, List.map_append, List.sum_append, sum_zero f p fun k hk => h k (by omega)]; simp [h p (by omega)]
theorem sum_one (f : Nat → Int) {k1 : Nat} : ∀ {p : Nat}, k1 < p → (∀ k < p, k ≠ k1 → f k = 0) → ((List.range p).map f).sum = f k1
  | 0, h, _ => by omega
  | p + 1, h, z => by
    rw [List.range_succ, List.map_append, List.sum_append]
    by_cases e : k1 = p
    · rw [sum_zero f p fun k hk => z k (by omega) (by omega), e]; simp
    · rw [sum_one f (show k1 < p by omega) fun k hk ne => z k (by omega) ne]; simp [z p (by omega) (Ne.symm e)]
theorem pick {p q y : Int} {v : Int} (hp : 0 < p) (hv : (q * v) % p = 1 % p) : ∃ k : Nat, (k : Int) < p ∧ p ∣ y - k * q := by
  have c0 := Int.emod_nonneg (y * v) (show p ≠ 0 by omega)
  have c1 := Int.emod_lt_of_pos (y * v) hp
  refine ⟨(y * v % p).toNat, by omega, ?_⟩
  rw [Int.toNat_of_nonneg c0]
  have e1 := Int.emod_add_mul_ediv (y * v) p
  have d : p ∣ q * v - 1 := Int.dvd_of_emod_eq_zero (by rw [Int.sub_emod, hv]; simp)
  obtain ⟨z, hz⟩ := d
  refine ⟨y * v / p * q - y * z, ?_⟩
  grind
theorem pick_one {p q y : Int} (cop : Nat.Coprime p.natAbs q.natAbs) {k k1 : Nat} (hk : (k : Int) < p) (hk1 : (k1 : Int) < p) (d : p ∣ y - k * q) (d1 : p ∣ y - k1 * q) : k = k1 := by
  have d2 : p ∣ q * ((k1 : Int) - k) := by
    have := Int.dvd_sub d d1
    rwa [show y - k * q - (y - k1 * q) = q * ((k1 : Int) - k) by grind] at this
  obtain ⟨c, hc⟩ := Rs.cdvd_mul cop d2
  have : c = 0 := by
    rcases Int.lt_trichotomy c 0 with g | g | g
    · have := Int.mul_le_mul_of_nonneg_left (show c ≤ -1 by omega) (show 0 ≤ p by omega)
      omega
    · exact g
    · have := Int.mul_le_mul_of_nonneg_left (show 1 ≤ c by omega) (show 0 ≤ p by omega)
      omega
  rw [this] at hc
  omega
structure Two (n : Nat) (p q : Int) (m : Nat) : Prop where
  p2 : 2 ≤ p
  q2 : 2 ≤ q
  m0 : 0 < m
  e : (n : Int) = p * q * m
  cop : Nat.Coprime p.natAbs q.natAbs
  vq : ∃ v, (q * v) % p = 1 % p
  vp : ∃ v, (p * v) % q = 1 % q
theorem Two.s {n m : Nat} {p q : Int} (T : Two n p q m) : (n : Int) / p = q * m := by
  have := T.p2
  rw [T.e, Int.mul_assoc]; exact Int.mul_ediv_cancel_left _ (by omega)
theorem Two.t {n m : Nat} {p q : Int} (T : Two n p q m) : (n : Int) / q = p * m := by
  have := T.q2
  rw [T.e, Int.mul_comm p q, Int.mul_assoc]; exact Int.mul_ediv_cancel_left _ (by omega)
def cr (p q s t : Int) (a : Int → Int) (h low : Int) : List (Int × Int × Int) :=
  (List.range p.toNat).map (fun (k : Nat) => (q, h + k * s, a (h + k * s) - a low)) ++ (List.range q.toNat).map (fun (j : Nat) => (p, low % t + j * t, a (low % t + j * t)))
def Low (p s : Int) (a : Int → Int) (h low : Int) : Prop := ∃ k0 : Nat, (k0 : Int) < p ∧ low = h + k0 * s ∧ ∀ k : Nat, (k : Int) < p → a low ≤ a (h + k * s)
theorem rvs_app (n : Int) (x y : List (Int × Int × Int)) (z : Int) : Rg.rvs n (x ++ y) z = Rg.rvs n x z + Rg.rvs n y z := by unfold Rg.rvs; rw [List.map_append, List.sum_append]
theorem dvd_m {m x y : Int} (d : m ∣ x - y) (y0 : 0 ≤ y) (ym : y < m) : x % m = y := by
  obtain ⟨c, hc⟩ := d
  rw [show x = y + m * c by omega, Int.add_mul_emod_self_left, Int.emod_eq_of_lt y0 ym]
theorem cr_val {n m : Nat} {p q : Int} {a : Int → Int} {h low : Int} (T : Two n p q m) (per : Ld.Per n a) (sq : Sq (q * m) (p * m) a) (h0 : 0 ≤ h) (hm : h < m) (L : Low p (q * m) a h low) (x : Int) :
    Rg.rvs n (cr p q (q * m) (p * m) a h low) x = if x % m = h then a x else 0 := by
  obtain ⟨k0, k0p, rfl, _⟩ := L
  have p2 := T.p2
  have q2 := T.q2
  have m0 := T.m0
  obtain ⟨v, hv⟩ := T.vq
  obtain ⟨v', hv'⟩ := T.vp
  have pn : ((p.toNat : Nat) : Int) = p := by omega
  have qn : ((q.toNat : Nat) : Int) = q := by omega
  unfold cr
  rw [rvs_app]
  unfold Rg.rvs
  rw [List.map_map, List.map_map]
  have lw := Int.emod_add_mul_ediv (h + k0 * (q * m)) (p * m)
  generalize hlt : (h + (k0 : Int) * (q * m)) % (p * m) = lt at lw ⊢
  generalize (h + (k0 : Int) * (q * m)) / (p * m) = w at lw
  have e1 : ∀ k : Nat, ((fun t => Rg.rv (↑n) t x) ∘ fun (k : Nat) => (q, h + ↑k * (q * ↑m), a (h + ↑k * (q * ↑m)) - a (h + ↑k0 * (q * ↑m)))) k = if (x - (h + k * (q * m))) % (p * m) = 0 then a (h + k * (q * m)) - a (h + k0 * (q * m)) else 0 := fun k => by
    show Rg.rv n (q, h + ↑k * (q * ↑m), a (h + ↑k * (q * ↑m)) - a (h + ↑k0 * (q * ↑m))) x = _
    unfold Rg.rv; rw [T.t]
  have e2 : ∀ j : Nat, ((fun t => Rg.rv (↑n) t x) ∘ fun (j : Nat) => (p, lt + ↑j * (p * ↑m), a (lt + ↑j * (p * ↑m)))) j = if (x - (lt + j * (p * m))) % (q * m) = 0 then a (lt + j * (p * m)) else 0 := fun j => by
    show Rg.rv n (p, lt + ↑j * (p * ↑m), a (lt + ↑j * (p * ↑m))) x = _
    unfold Rg.rv; rw [T.s]
  by_cases c : x % m = h
  · rw [if_pos c]
    have xy := Int.emod_add_mul_ediv x m
    rw [c] at xy
    generalize x / (m : Int) = y at xy
    obtain ⟨k1, k1p, d1⟩ := pick (y := y) (show 0 < p by omega) hv
    obtain ⟨j1, j1q, d2⟩ := pick (y := y + p * w) (show 0 < q by omega) hv'
    have i1 : ∀ k : Nat, (x - (h + k * (q * m))) % (p * m) = 0 ↔ p ∣ y - k * q := fun k => by
      rw [← Int.dvd_iff_emod_eq_zero, show x - (h + k * (q * m)) = (y - k * q) * m by grind]
      exact Int.mul_dvd_mul_iff_right (by omega)
    have i2 : ∀ j : Nat, (x - (lt + j * (p * m))) % (q * m) = 0 ↔ q ∣ y + p * w - j * p := fun j => by
      rw [← Int.dvd_iff_emod_eq_zero, show x - (lt + j * (p * m)) = (y + p * w - j * p - k0 * q) * m by grind]
      refine Iff.trans (Int.mul_dvd_mul_iff_right (by omega)) ?_
      constructor
      · intro d; have := Int.dvd_add d (show q ∣ k0 * q from ⟨k0, by grind⟩); rwa [show y + p * w - j * p - k0 * q + k0 * q = y + p * w - j * p by omega] at this
      · intro d; exact Int.dvd_sub d ⟨k0, by grind⟩
    rw [sum_one _ (k1 := k1) (by omega) (fun k hk ne => by rw [e1, if_neg]; exact fun z => ne (pick_one T.cop (by omega) k1p ((i1 k).mp z) d1)),
      sum_one _ (k1 := j1) (by omega) (fun j hj ne => by rw [e2, if_neg]; exact fun z => ne (pick_one (by rw [Nat.Coprime, Nat.gcd_comm]; exact T.cop) (by omega) j1q ((i2 j).mp z) d2)), e1, e2, if_pos ((i1 k1).mpr d1), if_pos ((i2 j1).mpr d2)]
    obtain ⟨z, hz⟩ := id d1
    have r := sq.rect (h + k0 * (q * m)) (k1 - k0) z
    rw [show h + (k0 : Int) * (q * m) + ((k1 : Int) - k0) * (q * m) = h + k1 * (q * m) by grind, show h + (k1 : Int) * (q * m) + z * (p * m) = x by grind] at r
    have dj : q ∣ p * (w + z - j1) := by
      have := Int.dvd_sub d2 (show q ∣ k1 * q from ⟨k1, by grind⟩)
      rwa [show y + p * w - j1 * p - k1 * q = p * (w + z - j1) by grind] at this
    obtain ⟨g, hg⟩ := Rs.cdvd_mul (show Nat.Coprime q.natAbs p.natAbs by rw [Nat.Coprime, Nat.gcd_comm]; exact T.cop) dj
    have pe : a (h + k0 * (q * m) + z * (p * m)) = a (lt + j1 * (p * m)) := by
      refine per _ _ ?_
      rw [show h + (k0 : Int) * (q * m) + z * (p * m) = lt + j1 * (p * m) + n * g by rw [T.e]; grind, Int.add_mul_emod_self_left]
    rw [r, pe]
    omega
  · rw [if_neg c, sum_zero _ _ fun k _ => ?_, sum_zero _ _ fun j _ => ?_]
    · rfl
    · rw [e2, if_neg]
      intro z
      obtain ⟨g, hg⟩ := Int.dvd_of_emod_eq_zero z
      exact c (dvd_m (y := h) ⟨q * g + j * p + k0 * q - p * w, by grind⟩ h0 hm)
    · rw [e1, if_neg]
      intro z
      obtain ⟨g, hg⟩ := Int.dvd_of_emod_eq_zero z
      exact c (dvd_m (y := h) ⟨p * g + k * q, by grind⟩ h0 hm)
inductive Built (p q s t : Int) (a : Int → Int) : Nat → List (Int × Int × Int) → Prop where
  | zero : Built p q s t a 0 []
  | succ {i : Nat} {rows : List (Int × Int × Int)} {low : Int} : Built p q s t a i rows → Low p s a i low → Built p q s t a (i + 1) (rows ++ cr p q s t a i low)
theorem Built.val {n m : Nat} {p q : Int} {a : Int → Int} (T : Two n p q m) (per : Ld.Per n a) (sq : Sq (q * m) (p * m) a) {i : Nat} {rows : List (Int × Int × Int)} (B : Built p q (q * m) (p * m) a i rows) (hi : i ≤ m) (x : Int) :
    Rg.rvs n rows x = if x % m < i then a x else 0 := by
  have m0 := T.m0
  have x0 := Int.emod_nonneg x (show (m : Int) ≠ 0 by omega)
  induction B with
  | zero => rw [if_neg (by omega)]; rfl
  | @succ i rows low B L ih =>
    rw [rvs_app, ih (by omega), cr_val T per sq (by omega) (by omega) L]
    by_cases c : x % m = i
    · rw [if_neg (by omega), if_pos c, if_pos (by omega)]; omega
    · by_cases c2 : x % m < i
      · rw [if_pos c2, if_neg c, if_pos (by omega)]; omega
      · rw [if_neg c2, if_neg c, if_neg (by omega)]; rfl
theorem Built.all {n m : Nat} {p q : Int} {a : Int → Int} (T : Two n p q m) (per : Ld.Per n a) (sq : Sq (q * m) (p * m) a) {rows : List (Int × Int × Int)} (B : Built p q (q * m) (p * m) a m rows) (x : Int) : Rg.rvs n rows x = a x := by
  rw [B.val T per sq (Nat.le_refl _), if_pos (Int.emod_lt_of_pos _ (by have := T.m0; omega))]
theorem cr_ok {n m : Nat} {p q : Int} {a : Int → Int} {h low : Int} (T : Two n p q m) (h0 : 0 ≤ h) (hm : h < m) (L : Low p (q * m) a h low) (nn : ∀ x, 0 ≤ a x) :
    ∀ r ∈ cr p q (q * m) (p * m) a h low, (r.1 = p ∨ r.1 = q) ∧ 0 ≤ r.2.1 ∧ r.2.1 < n ∧ 0 ≤ r.2.2 ∧ r.2.1 % m = h := by
  obtain ⟨k0, k0p, el, lo⟩ := L
  have p2 := T.p2
  have q2 := T.q2
  have m0 := T.m0
  have e := T.e
  intro r hr
  rcases List.mem_append.mp hr with z | z
  · obtain ⟨k, hk, rfl⟩ := List.mem_map.mp z
    have hk := List.mem_range.mp hk
    have b1 : (0 : Int) ≤ k * (q * m) := Int.mul_nonneg (by omega) (Int.mul_nonneg (by omega) (by omega))
    have b2 : (k : Int) * (q * m) ≤ (p - 1) * (q * m) := Int.mul_le_mul_of_nonneg_right (by omega) (Int.mul_nonneg (by omega) (by omega))
    have b3 : (m : Int) ≤ q * m := by have := Int.mul_le_mul_of_nonneg_right (show 1 ≤ q by omega) (show (0 : Int) ≤ m by omega); omega
    have b4 : (p - 1) * (q * m) + q * m = n := by rw [e]; grind
    have := lo k (by omega)
    refine ⟨.inr rfl, by show 0 ≤ h + k * (q * m); omega, by show h + k * (q * m) < n; omega, by show 0 ≤ a (h + k * (q * m)) - a low; omega, dvd_m (y := h) ⟨k * q, by show h + k * (q * m) - h = _; grind⟩ h0 hm⟩
  · obtain ⟨j, hj, rfl⟩ := List.mem_map.mp z
    have hj := List.mem_range.mp hj
    have t0 : 0 < p * (m : Int) := Int.mul_pos (by omega) (by omega)
    have l0 := Int.emod_nonneg low (show p * (m : Int) ≠ 0 by omega)
    have l1 := Int.emod_lt_of_pos low t0
    have lw := Int.emod_add_mul_ediv low (p * m)
    have b1 : (0 : Int) ≤ j * (p * m) := Int.mul_nonneg (by omega) (by omega)
    have b2 : (j : Int) * (p * m) ≤ (q - 1) * (p * m) := Int.mul_le_mul_of_nonneg_right (by omega) (by omega)
    have b4 : (q - 1) * (p * m) + p * m = n := by rw [e]; grind
    refine ⟨.inl rfl, by show 0 ≤ low % (p * m) + j * (p * m); omega, by show low % (p * m) + j * (p * m) < n; omega, nn _, dvd_m (y := h) ⟨k0 * q - p * (low / (p * m)) + j * p, ?_⟩ h0 hm⟩
    show low % (p * m) + j * (p * m) - h = _
    generalize low % (p * m) = lt at *
    generalize low / (p * (m : Int)) = w at *
    grind
theorem nodup_map_range {β : Type} (f : Nat → β) (inj : ∀ i j, f i = f j → i = j) (p : Nat) : ((List.range p).map f).Nodup := by
  refine List.Pairwise.map f (fun i j ne e => ne (inj i j e)) List.nodup_range
theorem cr_nodup {n m : Nat} {p q : Int} {a : Int → Int} {h low : Int} (T : Two n p q m) (ne : p ≠ q) : ((cr p q (q * m) (p * m) a h low).map fun t => (t.1, t.2.1)).Nodup := by
  have p2 := T.p2
  have q2 := T.q2
  have m0 := T.m0
  have s0 : 0 < q * (m : Int) := Int.mul_pos (by omega) (by omega)
  have t0 : 0 < p * (m : Int) := Int.mul_pos (by omega) (by omega)
  unfold cr
  rw [List.map_append, List.map_map, List.map_map]
  refine List.nodup_append.mpr ⟨nodup_map_range _ (fun i j e => ?_) _, nodup_map_range _ (fun i j e => ?_) _, fun x hx y hy e => ?_⟩
  · have e2 : h + (i : Int) * (q * m) = h + j * (q * m) := congrArg Prod.snd e
    have : (i : Int) = j := Int.eq_of_mul_eq_mul_right (show q * (m : Int) ≠ 0 by omega) (by omega)
    omega
  · have e2 : low % (p * m) + (i : Int) * (p * m) = low % (p * m) + j * (p * m) := congrArg Prod.snd e
    have : (i : Int) = j := Int.eq_of_mul_eq_mul_right (show p * (m : Int) ≠ 0 by omega) (by omega)
    omega
  · obtain ⟨k, _, rfl⟩ := List.mem_map.mp hx
    obtain ⟨j, _, rfl⟩ := List.mem_map.mp hy
    exact ne (congrArg Prod.fst e).symm
def RowOk (n : Nat) (pl : List Int) (r : Int × Int × Int) : Prop := r.1 ∈ pl ∧ 0 ≤ r.2.1 ∧ r.2.1 < n ∧ 0 ≤ r.2.2
theorem Built.ok {n m : Nat} {p q : Int} {a : Int → Int} (T : Two n p q m) (ne : p ≠ q) (nn : ∀ x, 0 ≤ a x) {i : Nat} {rows : List (Int × Int × Int)} (B : Built p q (q * m) (p * m) a i rows) (hi : i ≤ m) :
    (∀ r ∈ rows, RowOk n [p, q] r ∧ r.2.1 % m < i) ∧ (rows.map fun t => (t.1, t.2.1)).Nodup ∧ (rows.length : Int) = i * (p + q) := by
  induction B with
  | zero => exact ⟨fun r hr => (by simp at hr), by simp, by simp⟩
  | @succ i rows low B L ih =>
    obtain ⟨i1, i2, i3⟩ := ih (by omega)
    have c1 := cr_ok T (by omega) (by omega) L nn
    refine ⟨fun r hr => ?_, ?_, ?_⟩
    · rcases List.mem_append.mp hr with z | z
      · exact ⟨(i1 r z).1, by have := (i1 r z).2; omega⟩
      · obtain ⟨d1, d2, d3, d4, d5⟩ := c1 r z
        refine ⟨⟨?_, d2, d3, d4⟩, by omega⟩
        rcases d1 with d | d <;> rw [d] <;> simp
    · rw [List.map_append]
      refine List.nodup_append.mpr ⟨i2, cr_nodup T ne, fun x hx y hy e => ?_⟩
      obtain ⟨r, hr, rfl⟩ := List.mem_map.mp hx
      obtain ⟨r', hr', rfl⟩ := List.mem_map.mp hy
      have e2 : r.2.1 = r'.2.1 := congrArg Prod.snd e
      have w1 := (i1 r hr).2
      have w2 := (c1 r' hr').2.2.2.2
      rw [e2] at w1
      omega
    · have p2 := T.p2
      have q2 := T.q2
      unfold cr
      simp only [List.length_append, List.length_map, List.length_range]
      have : ((rows.length + (p.toNat + q.toNat) : Nat) : Int) = i * (p + q) + (p + q) := by omega
      rw [this]
      grind
def Ev (n : Nat) : List Int → (Int → Int) → Prop
  | [], a => ∀ x, a x = 0
  | [p], a => ∀ x, a (x + (n : Int) / p) = a x
  | p :: q :: _, a => Sq ((n : Int) / p) ((n : Int) / q) a
theorem rv_per {n : Nat} {r : Int × Int × Int} (x : Int) : Rg.rv n r (x + (n : Int) / r.1) = Rg.rv n r x := by
  unfold Rg.rv
  rw [show x + (n : Int) / r.1 - r.2.1 = x - r.2.1 + (n : Int) / r.1 by omega, Int.add_emod_right]
theorem Ev.add {n : Nat} {pl : List Int} {a b : Int → Int} (ha : Ev n pl a) (hb : Ev n pl b) : Ev n pl fun x => a x + b x := by
  match pl, ha, hb with
  | [], ha, hb => exact fun x => by show a x + b x = 0; rw [ha x, hb x]; rfl
  | [p], ha, hb => exact fun x => by show a _ + b _ = a x + b x; rw [ha x, hb x]
  | p :: q :: _, ha, hb => exact fun x => by have := ha x; have := hb x; show a x + b x - (a _ + b _) - (a _ + b _) + (a _ + b _) = 0; omega
theorem Ev.zero {n : Nat} {pl : List Int} : Ev n pl fun _ => 0 := by
  match pl with
  | [] => exact fun x => rfl
  | [p] => exact fun x => rfl
  | p :: q :: _ => exact fun x => rfl
theorem Ev.congr {n : Nat} {pl : List Int} {a b : Int → Int} (h : ∀ x, a x = b x) (ha : Ev n pl a) : Ev n pl b := by
  have : a = b := funext h
  rw [← this]; exact ha
theorem Ev.rv {n : Nat} {pl : List Int} (l2 : pl.length ≤ 2) {r : Int × Int × Int} (hr : r.1 ∈ pl) : Ev n pl fun x => Rg.rv n r x := by
  match pl, l2, hr with
  | [p], _, hr => exact fun x => by have e := List.mem_singleton.mp hr; rw [← e]; exact rv_per x
  | [p, q], _, hr =>
    intro x
    show Rg.rv n r x - Rg.rv n r (x + (n : Int) / p) - Rg.rv n r (x + (n : Int) / q) + Rg.rv n r (x + (n : Int) / p + (n : Int) / q) = 0
    rcases List.mem_cons.mp hr with e | e
    · rw [← e, rv_per, show x + (n : Int) / r.1 + (n : Int) / q = x + (n : Int) / q + (n : Int) / r.1 by omega, rv_per]; omega
    · rw [← List.mem_singleton.mp e, rv_per, rv_per]; omega
theorem Ev.rvs {n : Nat} {pl : List Int} (l2 : pl.length ≤ 2) : ∀ {rows : List (Int × Int × Int)}, (∀ r ∈ rows, r.1 ∈ pl) → Ev n pl fun x => Rg.rvs n rows x
  | [], _ => Ev.zero.congr fun x => rfl
  | r :: rows, h => by
    refine Ev.congr (fun x => ?_) ((Ev.rv l2 (h r (by simp))).add (Ev.rvs (rows := rows) l2 fun r' hr => h r' (List.mem_cons_of_mem _ hr)))
    show Rg.rv n r x + Rg.rvs n rows x = Rg.rvs n (r :: rows) x
    unfold Rg.rvs; rw [List.map_cons, List.sum_cons]
def Likely (n : Nat) (a : Int → Int) : List Int → List (Int × Int × Int) → Prop
  | [], rows => rows = []
  | [p], rows => rows = (List.range ((n : Int) / p).toNat).map fun (h : Nat) => (p, (h : Int), a h)
  | p :: q :: _, rows => ∃ m : Nat, Two n p q m ∧ Built p q (q * m) (p * m) a m rows
theorem one_val {n : Nat} {p : Int} {a : Int → Int} (hn : 0 < n) (p2 : 2 ≤ p) (d : p ∣ n) (ev : ∀ x, a (x + (n : Int) / p) = a x) (x : Int) : Rg.rvs n ((List.range ((n : Int) / p).toNat).map fun (h : Nat) => (p, (h : Int), a h)) x = a x := by
  obtain ⟨st, est, st0, enp, _⟩ := Rg.step_of hn p2 d
  rw [est] at ev ⊢
  rw [Int.toNat_natCast]
  have x0 := Int.emod_nonneg x (show (st : Int) ≠ 0 by omega)
  have x1 := Int.emod_lt_of_pos x (show (0 : Int) < st by omega)
  unfold Rg.rvs
  rw [List.map_map]
  have e1 : ∀ k : Nat, ((fun t => Rg.rv (↑n) t x) ∘ fun (h : Nat) => (p, (h : Int), a h)) k = if (x - k) % st = 0 then a k else 0 := fun k => by
    show Rg.rv n (p, (k : Int), a k) x = _
    unfold Rg.rv; rw [est]
  have ex := Int.emod_add_mul_ediv x st
  rw [sum_one _ (k1 := (x % st).toNat) (by omega) (fun k hk ne => by
    rw [e1, if_neg]
    intro z
    have := dvd_m (Int.dvd_of_emod_eq_zero z) (by omega) (by omega)
    omega), e1, Int.toNat_of_nonneg x0, if_pos]
  · have := per_mul ev (x % st) (x / st)
    rw [← this]
    congr 1
    grind
  · rw [show x - x % st = st * (x / st) by omega]; exact Int.mul_emod_right _ _
theorem Likely.val {n : Nat} {pl : List Int} {a : Int → Int} (hn : 0 < n) (l2 : pl.length ≤ 2) (hp : ∀ p ∈ pl, 2 ≤ p ∧ p ∣ n) (per : Ld.Per n a) {rows : List (Int × Int × Int)} (L : Likely n a pl rows) (ev : Ev n pl a) (x : Int) : Rg.rvs n rows x = a x := by
  match pl, l2, hp, L, ev with
  | [], _, _, L, ev => rw [ev x, show rows = [] from L]; rfl
  | [p], _, hp, L, ev =>
    rw [show rows = _ from L]
    exact one_val hn (hp p (by simp)).1 (hp p (by simp)).2 ev x
  | [p, q], _, _, L, ev =>
    obtain ⟨m, T, B⟩ := L
    have sq : Sq ((n : Int) / p) ((n : Int) / q) a := ev
    rw [T.s, T.t] at sq
    exact B.all T per sq x
theorem Likely.ok {n : Nat} {pl : List Int} {a : Int → Int} (hn : 0 < n) (l2 : pl.length ≤ 2) (hp : ∀ p ∈ pl, 2 ≤ p ∧ p ∣ n) (nd : pl.Nodup) (nn : ∀ x, 0 ≤ a x) {rows : List (Int × Int × Int)} (L : Likely n a pl rows) :
    (∀ r ∈ rows, RowOk n pl r) ∧ (rows.map fun t => (t.1, t.2.1)).Nodup ∧ rows.length ≤ n * n := by
  match pl, l2, hp, nd, L with
  | [], _, _, _, L => rw [show rows = [] from L]; exact ⟨fun r hr => (by simp at hr), by simp, by simp⟩
  | [p], _, hp, _, L =>
    rw [show rows = _ from L]
    have p2 := (hp p (by simp)).1
    obtain ⟨st, est, st0, enp, _⟩ := Rg.step_of hn p2 (hp p (by simp)).2
    rw [est, Int.toNat_natCast]
    have stn : st ≤ n := by rw [enp]; exact Nat.le_mul_of_pos_left _ (by omega)
    refine ⟨fun r hr => ?_, ?_, ?_⟩
    · obtain ⟨h, hh, rfl⟩ := List.mem_map.mp hr
      have := List.mem_range.mp hh
      exact ⟨by simp, by show (0 : Int) ≤ h; omega, by show (h : Int) < n; omega, nn _⟩
    · rw [List.map_map]
      exact nodup_map_range _ (fun i j e => by have : (i : Int) = j := congrArg Prod.snd e; omega) _
    · rw [List.length_map, List.length_range]
      exact Nat.le_trans stn (Nat.le_mul_of_pos_left _ hn)
  | [p, q], _, hp, nd, L =>
    obtain ⟨m, T, B⟩ := L
    have ne : p ≠ q := fun e => by rw [e] at nd; simp at nd
    obtain ⟨b1, b2, b3⟩ := B.ok T ne nn (Nat.le_refl _)
    refine ⟨fun r hr => (b1 r hr).1, b2, ?_⟩
    have p2 := T.p2
    have q2 := T.q2
    have le : (m : Int) * (p + q) ≤ n * n := by
      have h1 : p + q ≤ p * q := by
        have := Int.mul_nonneg (show 0 ≤ p - 2 by omega) (show 0 ≤ q - 2 by omega)
        have h3 : (p - 2) * (q - 2) = p * q - 2 * p - 2 * q + 4 := by grind
        rcases Int.lt_or_le p 3 with g | g
        · have : p = 2 := by omega
          subst this
          omega
        · have h4 := Int.mul_le_mul_of_nonneg_right g (show 0 ≤ q by omega)
          rcases Int.lt_or_le q 3 with g2 | g2
          · have : q = 2 := by omega
            subst this
            omega
          · omega
      have h2 := Int.mul_le_mul_of_nonneg_left h1 (show (0 : Int) ≤ m by omega)
      have h3 : (m : Int) * (p * q) = n := by rw [T.e]; grind
      have h4 := Int.mul_le_mul_of_nonneg_left (show (1 : Int) ≤ n by omega) (show (0 : Int) ≤ n by omega)
      omega
    have : ((rows.length : Nat) : Int) ≤ ((n * n : Nat) : Int) := by rw [b3, Int.natCast_mul]; exact le
    omega
theorem two_of {n : Nat} {p q : Int} {ps : List (Int × Int)} (hn : 0 < n) (hp : Parts n ps) (e : ps.map Prod.fst = [p, q]) : ∃ m : Nat, Two n p q m ∧ (n : Int) / (p * q) = m := by
  match ps, e with
  | [x, y], e =>
    have e1 : x.1 = p := (List.cons.inj e).1
    have e2 : y.1 = q := (List.cons.inj (List.cons.inj e).2).1
    have rx := hp.row x (by simp)
    have ry := hp.row y (by simp)
    have lt := (List.pairwise_cons.mp hp.srt).1 y (by simp)
    rw [e1, e2] at lt
    have P1 : Prm p := by rw [← e1]; exact rx.pr
    have P2 : Prm q := by rw [← e2]; exact ry.pr
    have p2 := P1.1
    have q2 := P2.1
    have dp : p ∣ (n : Int) := by rw [← e1]; exact ((Pt.part_iff hp x).mp (by simp)).2.1
    have dq : q ∣ (n : Int) := by rw [← e2]; exact ((Pt.part_iff hp y).mp (by simp)).2.1
    have g1 := Ps.G_pr P1 P2 (by omega)
    have g2 := Ps.G_pr P2 P1 (by omega)
    have cop : Nat.Coprime p.natAbs q.natAbs := by
      have nd : ¬ p ∣ q := fun d => by have := Pt.prm_dvd P1 P2 d; omega
      exact Pt.copr P1 nd
    obtain ⟨m, hm⟩ := Rs.cdvd cop dp dq
    have pq : 0 < p * q := Int.mul_pos (by omega) (by omega)
    have m0 : 0 < m := by
      rcases Int.lt_or_le 0 m with g | g
      · exact g
      · have := Int.mul_le_mul_of_nonneg_left g (show 0 ≤ p * q by omega)
        omega
    have em : ((m.toNat : Nat) : Int) = m := by omega
    have i1 := Ld.inv_of (st := q) (n := p.toNat) (by omega) (by rw [show ((p.toNat : Nat) : Int) = p by omega]; exact g1)
    have i2 := Ld.inv_of (st := p) (n := q.toNat) (by omega) (by rw [show ((q.toNat : Nat) : Int) = q by omega]; exact g2)
    rw [show ((p.toNat : Nat) : Int) = p by omega] at i1
    rw [show ((q.toNat : Nat) : Int) = q by omega] at i2
    refine ⟨m.toNat, ⟨p2, q2, by omega, by rw [em]; exact hm, cop, i1, i2⟩, ?_⟩
    rw [em, hm]; exact Int.mul_ediv_cancel_left _ (by omega)
theorem Two.few {n m : Nat} {p q : Int} (T : Two n p q m) (ne : p ≠ q) : (m : Int) * (p + q) ≤ n := by
  have p2 := T.p2
  have q2 := T.q2
  have h1 : p + q ≤ p * q := by
    rcases Int.lt_or_le p 3 with g | g
    · have : p = 2 := by omega
      subst this
      omega
    · have h4 := Int.mul_le_mul_of_nonneg_right g (show 0 ≤ q by omega)
      have h5 := Int.mul_le_mul_of_nonneg_left q2 (show 0 ≤ p by omega)
      omega
  have h2 := Int.mul_le_mul_of_nonneg_left h1 (show (0 : Int) ≤ m by omega)
  have h3 : (m : Int) * (p * q) = n := by rw [T.e]; grind
  omega
theorem Built.len {p q s t : Int} {a : Int → Int} (p2 : 0 ≤ p) (q2 : 0 ≤ q) {i : Nat} {rows : List (Int × Int × Int)} (B : Built p q s t a i rows) : (rows.length : Int) = i * (p + q) := by
  induction B with
  | zero => simp
  | @succ i rows low B L ih =>
    unfold cr
    simp only [List.length_append, List.length_map, List.length_range]
    have : ((rows.length + (p.toNat + q.toNat) : Nat) : Int) = i * (p + q) + (p + q) := by omega
    rw [this]
    grind
def stp (n : Int) (pl : List Int) : List Int := pl.foldl (fun st p => st ++ st.map fun f => f + n / p) [0]
theorem stp_snoc (n : Int) (pl : List Int) (p : Int) : stp n (pl ++ [p]) = stp n pl ++ (stp n pl).map fun f => f + n / p := by unfold stp; rw [List.foldl_append]; rfl
def tot (a : Int → Int) (st : List Int) (h : Int) (i : Nat) : Int := ((List.range i).map fun (j : Nat) => if j = 1 ∨ j = 2 then 0 - a (h + st.getD j 0) else a (h + st.getD j 0)).sum
theorem tot_succ (a : Int → Int) (st : List Int) (h : Int) (i : Nat) : tot a st h (i + 1) = tot a st h i + (if i = 1 ∨ i = 2 then 0 - a (h + st.getD i 0) else a (h + st.getD i 0)) := by
  unfold tot; rw [List.range_succ, List.map_append, List.sum_append]; simp
theorem stp_len (n : Int) : ∀ pl : List Int, pl.length ≤ 2 → (stp n pl).length ≤ 4
  | [], _ => by simp [stp]
  | [p], _ => by simp [stp]
  | [p, q], _ => by simp [stp]
theorem ev_tot {n : Nat} {pl : List Int} {a : Int → Int} (hn : 0 < n) (per : Ld.Per n a) (l2 : pl.length ≤ 2) : Ev n pl a ↔ ∀ h : Nat, h < n → tot a (stp n pl) h (stp n pl).length = 0 := by
  have back : ∀ (x : Int), ∃ h : Nat, h < n ∧ ∀ c : Int, a (x + c) = a ((h : Int) + c) := fun x => by
    have x0 := Int.emod_nonneg x (show (n : Int) ≠ 0 by omega)
    have x1 := Int.emod_lt_of_pos x (show (0 : Int) < n by omega)
    refine ⟨(x % n).toNat, by omega, fun c => per _ _ ?_⟩
    rw [Int.toNat_of_nonneg x0, Int.emod_add_emod]
  match pl, l2 with
  | [], _ =>
    have e : ∀ h : Int, tot a (stp n []) h (stp n []).length = a h := fun h => by simp [stp, tot, List.range_succ]
    constructor
    · intro ev h _; rw [e]; exact ev h
    · intro t x
      obtain ⟨h, hh, ec⟩ := back x
      have := t h hh
      rw [e] at this
      have c0 := ec 0
      rw [Int.add_zero, Int.add_zero] at c0
      rw [c0, this]
  | [p], _ =>
    have e : ∀ h : Int, tot a (stp n [p]) h (stp n [p]).length = a h - a (h + (n : Int) / p) := fun h => by simp [stp, tot, List.range_succ]; omega
    constructor
    · intro ev h _; rw [e]; have := ev h; omega
    · intro t x
      obtain ⟨h, hh, ec⟩ := back x
      have := t h hh
      rw [e] at this
      have c0 := ec 0
      rw [Int.add_zero, Int.add_zero] at c0
      rw [ec, c0]; omega
  | [p, q], _ =>
    have e : ∀ h : Int, tot a (stp n [p, q]) h (stp n [p, q]).length = a h - a (h + (n : Int) / p) - a (h + (n : Int) / q) + a (h + (n : Int) / p + (n : Int) / q) := fun h => by
      have e2 : h + (n : Int) / p + (n : Int) / q = h + ((n : Int) / p + (n : Int) / q) := by omega
      rw [e2]
      simp [stp, tot, List.range_succ]; omega
    constructor
    · intro ev h _; rw [e]; exact ev h
    · intro t x
      obtain ⟨h, hh, ec⟩ := back x
      have := t h hh
      rw [e] at this
      have c0 := ec 0
      rw [Int.add_zero, Int.add_zero] at c0
      have e2 : x + (n : Int) / p + (n : Int) / q = x + ((n : Int) / p + (n : Int) / q) := by omega
      rw [e2, ec, ec, ec, c0, ← Int.add_assoc]; exact this
theorem per_rv {n : Nat} {p : Int} (hn : 1 ≤ n) (p2 : 2 ≤ p) (d : p ∣ n) (h c : Int) : Ld.Per n fun x => Rg.rv n (p, h, c) x := fun x y e => by
  obtain ⟨st, est, st0, enp, _⟩ := Rg.step_of hn p2 d
  show Rg.rv n (p, h, c) x = Rg.rv n (p, h, c) y
  unfold Rg.rv
  rw [est]
  have sn : (st : Int) ∣ n := ⟨p.toNat, by rw [enp, Int.natCast_mul, Int.mul_comm]⟩
  have : (x - h) % st = (y - h) % st := by
    rw [← Int.emod_emod_of_dvd (x - h) sn, ← Int.emod_emod_of_dvd (y - h) sn, Int.sub_emod x, e, ← Int.sub_emod]
  show (if (x - h) % st = 0 then c else 0) = if (y - h) % st = 0 then c else 0
  rw [this]
theorem S_rv {n : Nat} {p : Int} (hn : 1 ≤ n) (p2 : 2 ≤ p) (d : p ∣ n) (h c : Int) : Ld.S n (fun x => Rg.rv n (p, h, c) x) = p * c := by
  obtain ⟨st, est, st0, enp, _⟩ := Rg.step_of hn p2 d
  rw [← Ld.S_shift (by omega) (per_rv hn p2 d h c) h]
  have e : Ld.S n (fun j => Rg.rv n (p, h, c) (j + h)) = Ld.S (st * p.toNat) (fun j => if j % st = 0 then c else 0) := by
    rw [Nat.mul_comm st, ← enp]
    refine Ld.S_congr fun j _ => ?_
    unfold Rg.rv
    rw [est]
    show (if ((j : Int) + h - h) % st = 0 then c else 0) = _
    rw [show (j : Int) + h - h = j by omega]
  rw [e, Ld.S_mult st0 (fun _ => c), Pl.S_const, Int.toNat_of_nonneg (by omega)]
theorem S_rvs {n : Nat} {pl : List Int} (hn : 1 ≤ n) (hp : ∀ p ∈ pl, 2 ≤ p ∧ p ∣ n) : ∀ {rows : List (Int × Int × Int)}, (∀ r ∈ rows, r.1 ∈ pl) → Ld.S n (fun x => Rg.rvs n rows x) = (rows.map fun r => r.1 * r.2.2).sum
  | [], _ => by
    have : (fun x => Rg.rvs n [] x) = fun _ => 0 := funext fun x => rfl
    rw [this, Ld.S_zero]; rfl
  | (p, h, c) :: rows, k => by
    have e : (fun x => Rg.rvs n ((p, h, c) :: rows) x) = fun x => Rg.rv n (p, h, c) x + Rg.rvs n rows x := funext fun x => by unfold Rg.rvs; rw [List.map_cons, List.sum_cons]
    have q := hp p (k (p, h, c) (by simp))
    rw [e, Ld.S_add, S_rv hn q.1 q.2, S_rvs hn hp fun r hr => k r (List.mem_cons_of_mem _ hr), List.map_cons, List.sum_cons]
theorem sum_S {b : List Int} {n : Nat} (h : b.length = n) (hn : 1 ≤ n) : b.sum = Ld.S n (Ld.at' b) := by
  rw [← Pl.S_sum]
  congr 1
  refine List.ext_getElem? fun i => ?_
  by_cases c : i < n
  · rw [List.getElem?_map, List.getElem?_range c]
    have := Ld.at_get (a := b) (x := (i : Int)) (by omega)
    rw [h, Int.emod_eq_of_lt (by omega) (by omega), Int.toNat_natCast] at this
    exact this
  · rw [List.getElem?_eq_none (by omega), List.getElem?_eq_none (by simp; omega)]
theorem parts_ne {n : Nat} {ps : List (Int × Int)} (h : Parts n ps) (n2 : n ≠ 1) : ps.map Prod.fst ≠ [] := fun e => by
  have e2 : ps = [] := by simpa using e
  have := h.prd
  rw [e2] at this
  have : (1 : Int) = n := this
  omega
end Sk
set_option linter.all false
namespace Se
open Sk
def Dis (n : Int) (r s : Int × Int × Int) : Prop := ∀ x : Int, (x - r.2.1) % (n / r.1) = 0 → ¬ (x - s.2.1) % (n / s.1) = 0
theorem rvs_cons (n : Int) (r : Int × Int × Int) (rows : List (Int × Int × Int)) (x : Int) : Rg.rvs n (r :: rows) x = Rg.rv n r x + Rg.rvs n rows x := by
  unfold Rg.rvs; rw [List.map_cons, List.sum_cons]
theorem rvs_none {n x : Int} : ∀ {rows : List (Int × Int × Int)}, (∀ s ∈ rows, ¬ (x - s.2.1) % (n / s.1) = 0) → Rg.rvs n rows x = 0
  | [], _ => rfl
  | r :: rows, h => by
    rw [rvs_cons, rvs_none fun s hs => h s (List.mem_cons_of_mem _ hs)]
    unfold Rg.rv
    rw [if_neg (h r (by simp))]; rfl
theorem rvs01 {n : Int} : ∀ {rows : List (Int × Int × Int)}, (∀ r ∈ rows, r.2.2 = 1) → rows.Pairwise (Dis n) → ∀ x, Rg.rvs n rows x = 0 ∨ Rg.rvs n rows x = 1
  | [], _, _, x => .inl rfl
  | r :: rows, h, pw, x => by
    rw [rvs_cons]
    have pc := List.pairwise_cons.mp pw
    by_cases c : (x - r.2.1) % (n / r.1) = 0
    · rw [rvs_none fun s hs => pc.1 s hs x c]
      unfold Rg.rv
      rw [if_pos c, h r (by simp)]; exact .inr rfl
    · have e : Rg.rv n r x = 0 := by unfold Rg.rv; rw [if_neg c]
      rw [e, Int.zero_add]
      exact rvs01 (fun s hs => h s (List.mem_cons_of_mem _ hs)) pc.2 x
def F (Q : Nat) (t : Int) (i : Nat) : Int := ((i / Q : Nat) : Int) + 1 + ((i % Q : Nat) : Int) * t
theorem cl_snoc {Q : Nat} (hq : 0 < Q) (t : Int) (f : Nat) : (List.range ((f + 1) * Q)).map (F Q t) = (List.range (f * Q)).map (F Q t) ++ (List.range Q).map fun (k : Nat) => ((f : Int) + 1) + (k : Int) * t := by
  rw [Nat.succ_mul, List.range_add, List.map_append, List.map_map]
  congr 1
  refine List.map_congr_left fun k hk => ?_
  have kq := List.mem_range.mp hk
  show F Q t (f * Q + k) = _
  unfold F
  rw [Nat.mul_comm f Q, Nat.mul_add_div hq, Nat.mul_add_mod, Nat.div_eq_of_lt kq, Nat.mod_eq_of_lt kq, Nat.add_zero]
theorem small0 {m c : Int} (d : m ∣ c) (h1 : -m < c) (h2 : c < m) : c = 0 := by
  obtain ⟨k, hk⟩ := d
  have m0 : 0 < m := by omega
  have : k = 0 := by
    rcases Int.lt_trichotomy k 0 with g | g | g
    · have := Int.mul_le_mul_of_nonneg_left (show k ≤ -1 by omega) (show 0 ≤ m by omega)
      omega
    · exact g
    · have := Int.mul_le_mul_of_nonneg_left (show 1 ≤ k by omega) (show 0 ≤ m by omega)
      omega
  rw [hk, this, Int.mul_zero]
theorem both {d x a b : Int} (h1 : (x - a) % d = 0) (h2 : (x - b) % d = 0) : d ∣ a - b := by
  have := Int.dvd_sub (Int.dvd_of_emod_eq_zero h2) (Int.dvd_of_emod_eq_zero h1)
  rwa [show x - b - (x - a) = a - b by omega] at this
theorem small_dis {n m : Nat} {p q : Int} (T : Two n p q m) {i j : Nat} (hi : i < m * q.toNat) (hj : j < m * q.toNat) (ne : i ≠ j) : Dis n (p, F q.toNat (p * m) i, 1) (p, F q.toNat (p * m) j, 1) := by
  intro x h1 h2
  have q2 := T.q2
  have m0 := T.m0
  have hQ : 0 < q.toNat := by omega
  have d := both h1 h2
  change (n : Int) / p ∣ F q.toNat (p * m) i - F q.toNat (p * m) j at d
  rw [T.s] at d
  unfold F at d
  have i1 : i / q.toNat < m := Nat.div_lt_of_lt_mul (by rw [Nat.mul_comm]; exact hi)
  have j1 : j / q.toNat < m := Nat.div_lt_of_lt_mul (by rw [Nat.mul_comm]; exact hj)
  have i2 := Nat.mod_lt i hQ
  have j2 := Nat.mod_lt j hQ
  have ei := Nat.div_add_mod i q.toNat
  have ej := Nat.div_add_mod j q.toNat
  generalize i / q.toNat = u at *
  generalize j / q.toNat = v at *
  generalize i % q.toNat = a at *
  generalize j % q.toNat = b at *
  obtain ⟨z, hz⟩ := d
  have dm : (m : Int) ∣ (u : Int) - v := ⟨q * z - (a : Int) * p + b * p, by grind⟩
  have uv := small0 dm (by omega) (by omega)
  have e2 : (m : Int) * (q * z) = m * (((a : Int) - b) * p) := by
    have : (u : Int) = v := by omega
    rw [this] at hz
    grind
  have e3 := Int.eq_of_mul_eq_mul_left (show (m : Int) ≠ 0 by omega) e2
  have dq : q ∣ (a : Int) - b := by
    have d1 : q ∣ p * ((a : Int) - b) := ⟨z, by rw [e3, Int.mul_comm]⟩
    exact Rs.cdvd_mul T.cop.symm d1
  have ab := small0 dq (by omega) (by omega)
  have u2 : u = v := by omega
  have a2 : a = b := by omega
  subst u2 a2
  exact ne (by omega)
theorem great_dis {n m : Nat} {p q : Int} (T : Two n p q m) {i j : Nat} (hi : (i : Int) < p) (hj : (j : Int) < p) (ne : i ≠ j) : Dis n (q, (i : Int) * (q * m), 1) (q, (j : Int) * (q * m), 1) := by
  intro x h1 h2
  have m0 := T.m0
  have d := both h1 h2
  change (n : Int) / q ∣ (i : Int) * (q * m) - (j : Int) * (q * m) at d
  rw [T.t] at d
  obtain ⟨z, hz⟩ := d
  have e2 : (m : Int) * (p * z) = m * (((i : Int) - j) * q) := by grind
  have e3 := Int.eq_of_mul_eq_mul_left (show (m : Int) ≠ 0 by omega) e2
  have d1 : p ∣ q * ((i : Int) - j) := ⟨z, by rw [e3, Int.mul_comm]⟩
  have := small0 (Rs.cdvd_mul T.cop d1) (by omega) (by omega)
  exact ne (by omega)
theorem cross_dis {n m : Nat} {p q : Int} (T : Two n p q m) {i j : Nat} (hi : (i : Int) < ((m : Int) - 1) * q) : Dis n (p, F q.toNat (p * m) i, 1) (q, (j : Int) * (q * m), 1) := by
  intro x h1 h2
  have q2 := T.q2
  have m0 := T.m0
  have hQ : 0 < q.toNat := by omega
  obtain ⟨z1, e1⟩ := Int.dvd_of_emod_eq_zero h1
  obtain ⟨z2, e2⟩ := Int.dvd_of_emod_eq_zero h2
  change x - F q.toNat (p * m) i = (n : Int) / p * z1 at e1
  change x - (j : Int) * (q * m) = (n : Int) / q * z2 at e2
  rw [T.s] at e1
  rw [T.t] at e2
  unfold F at e1
  have lt : i / q.toNat < m - 1 := by
    refine Nat.div_lt_of_lt_mul ?_
    have : (i : Int) < ((q.toNat * (m - 1) : Nat) : Int) := by
      rw [Int.natCast_mul, Int.toNat_of_nonneg (by omega), Int.natCast_sub (by omega), Int.mul_comm]; exact hi
    omega
  generalize i / q.toNat = u at *
  generalize i % q.toNat = a at *
  have dm : (m : Int) ∣ (u : Int) + 1 := ⟨p * z2 + j * q - q * z1 - a * p, by grind⟩
  have := small0 dm (by omega) (by omega)
  omega
def rows2 (p q : Int) (m a b : Nat) : List (Int × Int × Int) := ((List.range a).map fun i => (p, F q.toNat (p * m) i, (1 : Int))) ++ (List.range b).map fun (k : Nat) => (q, (k : Int) * (q * m), (1 : Int))
theorem pw_range {α : Type} {R : α → α → Prop} (f : Nat → α) (a : Nat) (h : ∀ i j, i < a → j < a → i ≠ j → R (f i) (f j)) : ((List.range a).map f).Pairwise R := by
  rw [List.pairwise_map]
  refine List.Pairwise.imp_of_mem ?_ (List.pairwise_lt_range (n := a))
  intro i j hi hj lt
  exact h i j (List.mem_range.mp hi) (List.mem_range.mp hj) (by omega)
theorem rows2_dis {n m : Nat} {p q : Int} (T : Two n p q m) {a b : Nat} (ha : (a : Int) ≤ m * q) (hb : (b : Int) ≤ p) (hab : b = 0 ∨ (a : Int) ≤ ((m : Int) - 1) * q) : (rows2 p q m a b).Pairwise (Dis n) := by
  have q2 := T.q2
  have aq : a ≤ m * q.toNat := by
    have : (a : Int) ≤ ((m * q.toNat : Nat) : Int) := by rw [Int.natCast_mul, Int.toNat_of_nonneg (by omega)]; exact ha
    omega
  refine List.pairwise_append.mpr ⟨pw_range _ a fun i j hi hj ne => small_dis T (by omega) (by omega) ne, pw_range _ b fun i j hi hj ne => great_dis T (by omega) (by omega) ne, fun r hr s hs => ?_⟩
  obtain ⟨i, hi, rfl⟩ := List.mem_map.mp hr
  obtain ⟨j, hj, rfl⟩ := List.mem_map.mp hs
  have := List.mem_range.mp hi
  have := List.mem_range.mp hj
  rcases hab with z | z
  · omega
  · exact cross_dis T (by omega)
theorem rows2_one {p q : Int} {m a b : Nat} : ∀ r ∈ rows2 p q m a b, r.2.2 = 1 ∧ r.1 ∈ [p, q] := fun r hr => by
  rcases List.mem_append.mp hr with h | h
  · obtain ⟨i, _, rfl⟩ := List.mem_map.mp h; exact ⟨rfl, by simp⟩
  · obtain ⟨i, _, rfl⟩ := List.mem_map.mp h; exact ⟨rfl, by simp⟩
theorem sum_map_range (c : Int) : ∀ a : Nat, ((List.range a).map fun _ => c).sum = a * c
  | 0 => by simp
  | a + 1 => by
    rw [List.range_succ, List.map_append, List.sum_append, sum_map_range c a]
    show (a : Int) * c + (c + 0) = ((a + 1 : Nat) : Int) * c
    rw [Int.natCast_add]; grind
theorem rows2_sum {p q : Int} {m a b : Nat} : ((rows2 p q m a b).map fun r => r.1 * r.2.2).sum = a * p + b * q := by
  unfold rows2
  rw [List.map_append, List.sum_append, List.map_map, List.map_map]
  have e1 : ((List.range a).map ((fun r : Int × Int × Int => r.1 * r.2.2) ∘ fun i => (p, F q.toNat (p * m) i, (1 : Int)))) = (List.range a).map fun _ => p := List.map_congr_left fun i _ => by show p * 1 = p; omega
  have e2 : ((List.range b).map ((fun r : Int × Int × Int => r.1 * r.2.2) ∘ fun (k : Nat) => (q, (k : Int) * (q * m), (1 : Int)))) = (List.range b).map fun _ => q := List.map_congr_left fun i _ => by show q * 1 = q; omega
  rw [e1, e2, sum_map_range, sum_map_range]
def rows1 (p : Int) (c : Nat) : List (Int × Int × Int) := (List.range c).map fun (i : Nat) => (p, (i : Int), (1 : Int))
theorem rows1_dis {n : Nat} {p : Int} {c : Nat} (hc : (c : Int) ≤ (n : Int) / p) : (rows1 p c).Pairwise (Dis n) := by
  refine pw_range _ c fun i j hi hj ne x h1 h2 => ?_
  have := small0 (both h1 h2) (by show -((n : Int) / p) < (i : Int) - j; omega) (by show (i : Int) - j < (n : Int) / p; omega)
  exact ne (by change (i : Int) - j = 0 at this; omega)
theorem rows1_one {p : Int} {c : Nat} : ∀ r ∈ rows1 p c, r.2.2 = 1 ∧ r.1 ∈ [p] := fun r hr => by
  obtain ⟨i, _, rfl⟩ := List.mem_map.mp hr; exact ⟨rfl, by simp⟩
theorem rows1_sum {p : Int} {c : Nat} : ((rows1 p c).map fun r => r.1 * r.2.2).sum = c * p := by
  unfold rows1
  rw [List.map_map]
  have e1 : ((List.range c).map ((fun r : Int × Int × Int => r.1 * r.2.2) ∘ fun (i : Nat) => (p, (i : Int), (1 : Int)))) = (List.range c).map fun _ => p := List.map_congr_left fun i _ => by show p * 1 = p; omega
  rw [e1, sum_map_range]
structure Set (n : Nat) (pl : List Int) (many : Int) (b : List Int) : Prop where
  len : b.length = n
  zo : ∀ x, Ld.at' b x = 0 ∨ Ld.at' b x = 1
  sum : b.sum = many
  ev : Ev n pl (Ld.at' b)
theorem set_of {n : Nat} {pl : List Int} {many : Int} {b : List Int} {rows : List (Int × Int × Int)} (n1 : 1 ≤ n) (l2 : pl.length ≤ 2) (hp : ∀ p ∈ pl, 2 ≤ p ∧ p ∣ n) (one : ∀ r ∈ rows, r.2.2 = 1 ∧ r.1 ∈ pl) (dis : rows.Pairwise (Dis n)) (sm : (rows.map fun r => r.1 * r.2.2).sum = many)
    (lb : b.length = n) (e : ∀ x, Ld.at' b x = Rg.rvs n rows x) : Set n pl many b := by
  refine ⟨lb, fun x => by rw [e]; exact rvs01 (fun r hr => (one r hr).1) dis x, ?_, (Ev.rvs l2 fun r hr => (one r hr).2).congr fun x => (e x).symm⟩
  rw [sum_S lb n1, ← sm, ← S_rvs n1 hp fun r hr => (one r hr).2]
  congr 1
  exact funext e
theorem most {n m : Nat} {p q : Int} (T : Two n p q m) {a b many : Int} (a0 : 0 ≤ a) (b0 : 0 ≤ b) (e : a * p + b * q = many) (can : Ps.Can [p, q] ((n : Int) - many)) : a ≤ m * q ∧ (0 < b → a ≤ ((m : Int) - 1) * q) := by
  obtain ⟨a', b', a0', b0', e'⟩ := Ps.can2.mp can
  have p2 := T.p2
  have q2 := T.q2
  have en := T.e
  have sum : (a + a') * p + (b + b') * q = p * q * m := by rw [← en]; grind
  have cmp : ∀ c : Int, a * p ≤ c * p → a ≤ c := fun c h => Int.le_of_mul_le_mul_right h (by omega)
  have x1 : 0 ≤ a' * p := Int.mul_nonneg a0' (by omega)
  have x2 : 0 ≤ (b + b') * q := Int.mul_nonneg (by omega) (by omega)
  refine ⟨cmp _ (by grind), fun bp => cmp _ ?_⟩
  have d : p ∣ q * (b + b') := ⟨q * m - (a + a'), by grind⟩
  have d2 := Rs.cdvd_mul T.cop d
  have le := Int.le_of_dvd (by omega) d2
  have le2 := Int.mul_le_mul_of_nonneg_right le (show 0 ≤ q by omega)
  grind
theorem most1 {n : Nat} {p c many : Int} (p2 : 2 ≤ p) (d : p ∣ n) (e : c * p = many) (can : Ps.Can [p] ((n : Int) - many)) : c ≤ (n : Int) / p := by
  have h := (Ps.can1 p2).mp can
  obtain ⟨k, hk⟩ := d
  rw [hk, Int.mul_ediv_cancel_left _ (by omega)]
  have : c * p ≤ k * p := by rw [hk] at h; rw [e, Int.mul_comm k p]; omega
  exact Int.le_of_mul_le_mul_right this (by omega)
end Se
set_option Elab.async false
set_option linter.all false
set_option maxRecDepth 100000
set_option maxHeartbeats 5000000
namespace K46
open PySem L2
def top (i : Nat) : Stmt := PySem.Challenge.pw_evenhub_k46_whole_settings.main.body.getD i (.Pass ⟨0, 0, 0, 0⟩)
abbrev s_euclid : Stmt := top 7
theorem sc_euclid : FnScope ["one", "other", "bits", "rests", "counts", "turn"] ["one", "other", "bits"] (defScope s_euclid) := ⟨rfl, rfl, rfl, by decide +kernel, rfl, by decide +kernel, by decide +kernel⟩
abbrev s_turned_on : Stmt := top 8
theorem sc_turned_on : FnScope ["pair", "turn"] ["pair", "turn"] (defScope s_turned_on) := ⟨rfl, rfl, rfl, by decide +kernel, rfl, by decide +kernel, by decide +kernel⟩
abbrev s_next_turn : Stmt := top 9
theorem sc_next_turn : FnScope ["rests", "bits", "length", "behind", "turn"] ["rests", "bits"] (defScope s_next_turn) := ⟨rfl, rfl, rfl, by decide +kernel, rfl, by decide +kernel, by decide +kernel⟩
abbrev s_sure_turn : Stmt := top 10
abbrev s_parts : Stmt := top 12
theorem sc_parts : FnScope ["n", "found", "left", "p", "q"] ["n"] (defScope s_parts) := ⟨rfl, rfl, rfl, by decide +kernel, rfl, by decide +kernel, by decide +kernel⟩
abbrev s_prime_power : Stmt := top 13
theorem sc_prime_power : FnScope ["n", "p", "q"] ["n", "p"] (defScope s_prime_power) := ⟨rfl, rfl, rfl, by decide +kernel, rfl, by decide +kernel, by decide +kernel⟩
abbrev s_back : Stmt := top 14
theorem sc_back : FnScope ["step", "n", "told"] ["step", "n"] (defScope s_back) := ⟨rfl, rfl, rfl, by decide +kernel, rfl, by decide +kernel, by decide +kernel⟩
abbrev s_laid : Stmt := top 16
theorem sc_laid : FnScope ["n", "rows", "primes", "outcome", "p", "hole", "many"] ["n", "rows"] (defScope s_laid) := ⟨rfl, rfl, rfl, by decide +kernel, rfl, by decide +kernel, by decide +kernel⟩
abbrev s_lay_ring : Stmt := top 17
theorem sc_lay_ring : FnScope ["load", "p", "hole", "many", "place"] ["load", "p", "hole", "many"] (defScope s_lay_ring) := ⟨rfl, rfl, rfl, by decide +kernel, rfl, by decide +kernel, by decide +kernel⟩
abbrev s_ring_holes : Stmt := top 18
theorem sc_ring_holes : FnScope ["n", "p", "hole", "step"] ["n", "p", "hole"] (defScope s_ring_holes) := ⟨rfl, rfl, rfl, by decide +kernel, rfl, by decide +kernel, by decide +kernel⟩
abbrev s_prime_sum : Stmt := top 20
theorem sc_prime_sum : FnScope ["n", "many", "primes", "small", "great", "count", "left"] ["n", "many"] (defScope s_prime_sum) := ⟨rfl, rfl, rfl, by decide +kernel, rfl, by decide +kernel, by decide +kernel⟩
abbrev s_few_primes : Stmt := top 21
theorem sc_few_primes : FnScope ["n", "primes"] ["n"] (defScope s_few_primes) := ⟨rfl, rfl, rfl, by decide +kernel, rfl, by decide +kernel, by decide +kernel⟩
abbrev s_one_prime_sum : Stmt := top 22
theorem sc_one_prime_sum : FnScope ["primes", "many"] ["primes", "many"] (defScope s_one_prime_sum) := ⟨rfl, rfl, rfl, by decide +kernel, rfl, by decide +kernel, by decide +kernel⟩
abbrev s_setting : Stmt := top 24
theorem sc_setting : FnScope ["n", "many", "counts", "rows", "p", "count", "holes"] ["n", "many"] (defScope s_setting) := ⟨rfl, rfl, rfl, by decide +kernel, rfl, by decide +kernel, by decide +kernel⟩
abbrev s_ring_starts : Stmt := top 25
theorem sc_ring_starts : FnScope ["n", "primes"] ["n"] (defScope s_ring_starts) := ⟨rfl, rfl, rfl, by decide +kernel, rfl, by decide +kernel, by decide +kernel⟩
abbrev s_crossing_last : Stmt := top 26
theorem sc_crossing_last : FnScope ["n", "small", "great", "holes", "first"] ["n", "small", "great"] (defScope s_crossing_last) := ⟨rfl, rfl, rfl, by decide +kernel, rfl, by decide +kernel, by decide +kernel⟩
abbrev s_law_cell_at : Stmt := top 28
theorem sc_law_cell_at : FnScope ["script", "k"] ["script", "k"] (defScope s_law_cell_at) := ⟨rfl, rfl, rfl, by decide +kernel, rfl, by decide +kernel, by decide +kernel⟩
abbrev s_law_whole : Stmt := top 29
theorem sc_law_whole : FnScope ["found"] ["found"] (defScope s_law_whole) := ⟨rfl, rfl, rfl, by decide +kernel, rfl, by decide +kernel, by decide +kernel⟩
abbrev s_law_numbers : Stmt := top 30
theorem sc_law_numbers : FnScope ["found", "many"] ["found", "many"] (defScope s_law_numbers) := ⟨rfl, rfl, rfl, by decide +kernel, rfl, by decide +kernel, by decide +kernel⟩
abbrev s_law_primes : Stmt := top 31
theorem sc_law_primes : FnScope ["n", "found", "p"] ["n"] (defScope s_law_primes) := ⟨rfl, rfl, rfl, by decide +kernel, rfl, by decide +kernel, by decide +kernel⟩
abbrev s_law_wheel : Stmt := top 32
theorem sc_law_wheel : FnScope ["cell", "n", "p"] ["cell"] (defScope s_law_wheel) := ⟨rfl, rfl, rfl, by decide +kernel, rfl, by decide +kernel, by decide +kernel⟩
abbrev s_law_can : Stmt := top 33
theorem sc_law_can : FnScope ["primes", "many", "few"] ["primes", "many"] (defScope s_law_can) := ⟨rfl, rfl, rfl, by decide +kernel, rfl, by decide +kernel, by decide +kernel⟩
abbrev s_law_set : Stmt := top 34
theorem sc_law_set : FnScope ["found", "n", "many", "steps", "p", "hole", "total", "k", "weight"] ["found", "n", "many"] (defScope s_law_set) := ⟨rfl, rfl, rfl, by decide +kernel, rfl, by decide +kernel, by decide +kernel⟩
abbrev s_law_drawn : Stmt := top 35
theorem sc_law_drawn : FnScope ["cells", "many", "drawn", "k", "at"] ["cells", "many"] (defScope s_law_drawn) := ⟨rfl, rfl, rfl, by decide +kernel, rfl, by decide +kernel, by decide +kernel⟩
abbrev s_law_many : Stmt := top 36
theorem sc_law_many : FnScope ["n", "cell"] ["n", "cell"] (defScope s_law_many) := ⟨rfl, rfl, rfl, by decide +kernel, rfl, by decide +kernel, by decide +kernel⟩
abbrev s_law : Stmt := top 37
theorem sc_law : FnScope ["script", "n", "primes", "asks", "numbers", "drawn", "many", "due", "found"] ["script"] (defScope s_law) := ⟨rfl, rfl, rfl, by decide +kernel, rfl, by decide +kernel, by decide +kernel⟩
structure Txt (K : PySem.W.Frag) (mg : Str → Option Value) (t_LEAD_BITS : Tok) : Prop where
  g_LEAD_BITS : mg "LEAD_BITS" = some (.int 128 t_LEAD_BITS)
  d_euclid : Dn K mg "euclid" s_euclid ["one", "other", "bits"]
  d_turned_on : Dn K mg "turned_on" s_turned_on ["pair", "turn"]
  d_next_turn : Dn K mg "next_turn" s_next_turn ["rests", "bits"]
  d_sure_turn : Dn K mg "sure_turn" s_sure_turn ["rest", "later_rest"]
  d_parts : Dn K mg "parts" s_parts ["n"]
  d_prime_power : Dn K mg "prime_power" s_prime_power ["n", "p"]
  d_back : Dn K mg "back" s_back ["step", "n"]
  d_laid : Dn K mg "laid" s_laid ["n", "rows"]
  d_lay_ring : Dn K mg "lay_ring" s_lay_ring ["load", "p", "hole", "many"]
  d_ring_holes : Dn K mg "ring_holes" s_ring_holes ["n", "p", "hole"]
  d_prime_sum : Dn K mg "prime_sum" s_prime_sum ["n", "many"]
  d_few_primes : Dn K mg "few_primes" s_few_primes ["n"]
  d_one_prime_sum : Dn K mg "one_prime_sum" s_one_prime_sum ["primes", "many"]
  d_setting : Dn K mg "setting" s_setting ["n", "many"]
  d_ring_starts : Dn K mg "ring_starts" s_ring_starts ["n"]
  d_crossing_last : Dn K mg "crossing_last" s_crossing_last ["n", "small", "great"]
  d_law_cell_at : Dn K mg "_law_cell_at" s_law_cell_at ["script", "k"]
  d_law_whole : Dn K mg "_law_whole" s_law_whole ["found"]
  d_law_numbers : Dn K mg "_law_numbers" s_law_numbers ["found", "many"]
  d_law_primes : Dn K mg "_law_primes" s_law_primes ["n"]
  d_law_wheel : Dn K mg "_law_wheel" s_law_wheel ["cell"]
  d_law_can : Dn K mg "_law_can" s_law_can ["primes", "many"]
  d_law_set : Dn K mg "_law_set" s_law_set ["found", "n", "many"]
  d_law_drawn : Dn K mg "_law_drawn" s_law_drawn ["cells", "many"]
  d_law_many : Dn K mg "_law_many" s_law_many ["n", "cell"]
  b_len : mg "len" = none
  b_isinstance : mg "isinstance" = none
  b_int : mg "int" = none
  b_bool : mg "bool" = none
  b_list : mg "list" = none
  b_range : mg "range" = none
  b_min : mg "min" = none
  b_zip : mg "zip" = none
  b_all : mg "all" = none
  b_sum : mg "sum" = none
def spPP : Sp := fun vs H Q _ => ∃ n p : Int, vs = [.int n, .int p] ∧ 1 ≤ n ∧ n ≤ 10000 ∧ 2 ≤ p ∧ p ≤ 10000 ∧ ∀ q, Pt.QEnd n p q → Q (.int q) H
def PairsAt (H : Hp) (r : Addr) (ps : List (Int × Int)) : Prop := ∃ as : List Addr, H r = some (.lst (as.map V.ref)) ∧ Paired (fun a (x : Int × Int) => H a = some (.tup [.int x.1, .int x.2])) as ps
def spParts : Sp := fun vs H Q _ => ∃ n : Int, vs = [.int n] ∧ 1 ≤ n ∧ n ≤ 10000 ∧ ∀ r H' ps, Same H H' → H r = none → PairsAt H' r ps → Pt.Parts n ps → Q (.ref r) H'

section
variable {t_LEAD_BITS : Tok} {P : Program} {w : World} {K : PySem.W.Frag} {mg : Str → Option Value} {base : Heap}
def spLaw (K : PySem.W.Frag) : Sp := fun vs H Q _ => ∃ (a : Addr) (ns : List Int), vs = [.ref a] ∧ SqL K H a (ns.map V.int) ∧ ns.length ≤ 63 ∧ ∀ H', Q (.bl true) H'
theorem ok_prime_power (T : Txt K mg t_LEAD_BITS) : Df P w K mg base 1 "prime_power" ["n", "p"] spPP := by
  refine T.d_prime_power.ok sc_prime_power (fun vs H Q E h => ?_) (fun f cdv A outer s H vs Q E hr h => ?_)
  · obtain ⟨_, _, rfl, _⟩ := h; rfl
  obtain ⟨n, p, rfl, n1, n2, p1, p2, q⟩ := h
  have nd := sc_prime_power.nd
  refine ⟨_, (pss_cons (ps_set (i := 2) nd rfl (Or.inl rfl) pe_int) (pss_cons (ps_while PassesOwn.never (pt_cmpR op_eq (pe_op op_mod (pv 0) (pe_op op_mulB (pv 2) (pv 1))) pe_int (nomark _)) (pss_one (ps_set (i := 2) nd rfl (Or.inl rfl) (pe_op op_mulB (pv 2) (pv 1))))) (pss_one (ps_ret (pv 2))))), ?_⟩
  refine ⟨fun m σ H' => H' = H ∧ ∃ q, σ = [some (.int n), some (.int p), some (.int q)] ∧ Pt.QInv n p q ∧ m = (n - q).toNat, ⟨_, rfl, 1, rfl, Pt.q0 n p, rfl⟩, ?_⟩
  rintro m σ H' ⟨rfl, z, rfl, hz, rfl⟩
  have z1 := hz.pos
  have z2 := Pt.q_le n1 hz
  have zp := Pt.q_grow p1 z1
  refine ⟨_, rfl, _, rfl, _, rfl, _, _, rfl, rfl, mul_small (by omega) (by omega), _, _, rfl, rfl, (show 0 < z * p by omega), rfl, _, rfl, ?_⟩
  refine ite2 (fun c => ?_) (fun c => ?_)
  · have hq := Pt.q1 p1 hz (vint c)
    have hl := Pt.q_le n1 hq
    refine ⟨_, fun _ _ h => h, ?_⟩
    refine ⟨_, rfl, _, rfl, _, _, rfl, rfl, mul_small (by omega) (by omega), ?_⟩
    exact ⟨(n - z * p).toNat, by omega, rfl, _, rfl, hq, rfl⟩
  · exact ⟨_, rfl, q z (Pt.q2 hz (nvint c))⟩
theorem ok_parts (T : Txt K mg t_LEAD_BITS) : Df P w K mg base 2 "parts" ["n"] spParts := by
  have D_prime_power := ok_prime_power (P := P) (w := w) (base := base) T
  refine T.d_parts.ok sc_parts (fun vs H Q E h => ?_) (fun f cdv A outer s H vs Q E hr h => ?_)
  · obtain ⟨_, rfl, _⟩ := h; rfl
  obtain ⟨n, rfl, n1, n2, q⟩ := h
  have nd := sc_parts.nd
  refine ⟨_, (pss_cons (ps_set (i := 1) nd rfl (Or.inl rfl) (pe_lst pa_nil)) (pss_cons (ps_set (i := 2) nd rfl (Or.inl rfl) (pv 0)) (pss_cons (ps_set (i := 3) nd rfl (Or.inl rfl) pe_int) (pss_cons (ps_while PassesOwn.never (pt_cmpR op_le (pe_op op_mulB (pv 3) (pv 3)) (pv 2) (nomark _)) (pss_cons (ps_set (i := 4) nd rfl (Or.inl rfl) (pe_def D_prime_power (hr.mono (by decide)) (by rfl) (pa_cons (pv 2) (pa_cons (pv 3) pa_nil)))) (pss_cons (ps_if (pt_cmpR op_gt (pv 4) pe_int (nomark _)) (pss_cons (ps_expr (pe_bm PySem.F.plainAttrs_list PySem.F.slot_list_append PySem.F.type_list_append mt_append (pv 1) (pa_cons (pe_tup (pa_cons (pv 3) (pa_cons (pv 4) pa_nil))) pa_nil))) (pss_one (ps_set (i := 2) nd rfl (Or.inl rfl) (pe_op op_fdivB (pv 2) (pv 4))))) pss_nil) (pss_one (ps_set (i := 3) nd rfl (Or.inl rfl) (pe_op op_add (pv 3) pe_int)))))) (pss_cons (ps_if (pt_cmpR op_gt (pv 2) pe_int (nomark _)) (pss_one (ps_expr (pe_bm PySem.F.plainAttrs_list PySem.F.slot_list_append PySem.F.type_list_append mt_append (pv 1) (pa_cons (pe_tup (pa_cons (pv 2) (pa_cons (pv 2) pa_nil))) pa_nil)))) pss_nil) (pss_one (ps_ret (pv 1)))))))), ?_⟩
  refine ⟨Nat.zero_le _, fun r hr0 => ?_⟩
  refine ⟨_, rfl, ?_⟩
  refine ⟨fun m σ H' => Same H H' ∧ ∃ (as : List Addr) (ps : List (Int × Int)) (left p : Int) (qv : Option V), σ = [some (.int n), some (.ref r), some (.int left), some (.int p), qv] ∧
      H' r = some (.lst (as.map V.ref)) ∧ Paired (fun a (x : Int × Int) => H' a = some (.tup [.int x.1, .int x.2])) as ps ∧ Pt.PInv n ps left p ∧ 1 ≤ left ∧ left ≤ 10000 ∧ 2 ≤ p ∧ p ≤ 10001 ∧ (ps.length : Int) + 2 ≤ p ∧ m = (20000 - p).toNat,
    ⟨_, same_upd (Same.refl H) hr0, [], [], n, 2, none, rfl, upd_same, .nil, Pt.start n, n1, n2, by omega, by omega, by simp, rfl⟩, ?_⟩
  rintro m σ H' ⟨sm, as, ps, left, p, qv, rfl, hl, pr, inv, l1, l2, p1, p2, hlen, rfl⟩
  have al := Paired.length pr
  refine ⟨_, rfl, _, rfl, _, _, rfl, rfl, mul_small (by omega) (by omega), _, rfl, _, _, rfl, rfl, _, rfl, ?_⟩
  refine ite2 (fun c => ?_) (fun c => ?_)
  · have hd := dec c
    have a := Int.mul_le_mul_of_nonneg_left p1 (show 0 ≤ p by omega)
    refine ⟨_, fun _ _ h => h, ?_⟩
    refine ⟨_, rfl, _, rfl, left, p, rfl, l1, l2, p1, by omega, fun z hz => ?_⟩
    refine ⟨_, rfl, _, _, rfl, rfl, _, rfl, ?_⟩
    refine ite2 (fun c => ?_) (fun c => ?_)
    · have z1 := dec c
      have zl := Pt.q_le l1 hz.inv
      have lp := Pt.left_pos l1 hz.inv.dv hz.inv.pos
      refine ⟨_, rfl, .inl ⟨rfl, _, SqL.of hl⟩, _, rfl, _, rfl, (by show 2 ≤ sizeLine; decide), fun t ht => ?_⟩
      have rt : r ≠ t := ne_of_none hl ht
      refine ⟨r, _, _, rfl, rfl, (upd_ne rt).trans hl, by rw [List.length_map]; exact size1 (by omega), ?_⟩
      refine ⟨_, rfl, _, rfl, _, _, rfl, rfl, div_small (by omega) (by omega), ?_⟩
      refine ⟨_, rfl, _, _, rfl, rfl, ?_⟩
      refine ⟨(20000 - (p + 1)).toNat, by omega, same_upd (same_upd sm (sm.free ht)) hr0, as ++ [t], ps ++ [(p, z)], left / z, p + 1, some (.int z), rfl, ?_, ?_, Pt.turnA p1 inv hz z1, lp.1, by omega, by omega, by omega, by rw [List.length_append, List.length_singleton]; omega, rfl⟩
      · rw [upd_same, List.map_append]; rfl
      · refine Paired.snoc (Paired.mapP pr fun a x e => ?_) ?_
        · rw [upd_ne (ne_of e hl (fun z => by cases z)), upd_ne (ne_of_none e ht)]; exact e
        · rw [upd_ne (Ne.symm rt)]; exact upd_same
    · refine ⟨_, rfl, _, _, rfl, rfl, ?_⟩
      exact ⟨(20000 - (p + 1)).toNat, by omega, sm, as, ps, left, p + 1, some (.int z), rfl, hl, pr, Pt.turnB inv hz (ndec c), l1, l2, by omega, by omega, by omega, rfl⟩
  · have hd := ndec c
    refine ⟨_, rfl, _, _, rfl, rfl, _, rfl, ?_⟩
    refine ite2 (fun c => ?_) (fun c => ?_)
    · have z1 := dec c
      refine ⟨_, rfl, .inl ⟨rfl, _, SqL.of hl⟩, _, rfl, _, rfl, (by show 2 ≤ sizeLine; decide), fun t ht => ?_⟩
      have rt : r ≠ t := ne_of_none hl ht
      refine ⟨r, _, _, rfl, rfl, (upd_ne rt).trans hl, by rw [List.length_map]; exact size1 (by omega), ?_⟩
      refine ⟨_, rfl, ?_⟩
      refine q r _ (ps ++ [(left, left)]) (same_upd (same_upd sm (sm.free ht)) hr0) hr0 ⟨as ++ [t], ?_, ?_⟩ (Pt.endA p1 inv hd z1)
      · rw [upd_same, List.map_append]; rfl
      · refine Paired.snoc (Paired.mapP pr fun a x e => ?_) ?_
        · rw [upd_ne (ne_of e hl (fun z => by cases z)), upd_ne (ne_of_none e ht)]; exact e
        · rw [upd_ne (Ne.symm rt)]; exact upd_same
    · exact ⟨_, rfl, q r H' ps sm hr0 ⟨as, hl, pr⟩ (Pt.endB inv l1 (ndec c))⟩

def spWhole : Sp := fun vs H Q _ => ∃ i : Int, vs = [.int i] ∧ Q (.bl true) H
theorem ok_law_whole (T : Txt K mg t_LEAD_BITS) : Df P w K mg base 1 "_law_whole" ["found"] spWhole := by
  refine T.d_law_whole.ok sc_law_whole (fun vs H Q E h => ?_) (fun f cdv A outer s H vs Q E hr h => ?_)
  · obtain ⟨_, rfl, _⟩ := h; rfl
  obtain ⟨i, rfl, q⟩ := h
  have nd := sc_law_whole.nd
  refine ⟨_, (pss_one (ps_ret (pe_and (pe_callB call_isinst (by rfl) T.b_isinstance L2.bi_isinstance (pa_cons (pv 0) (pa_cons (pe_bltn (v := .ty "int") (by rfl) T.b_int L2.bi_int (by rfl)) pa_nil))) (pe_one (pe_not (pe_callB call_isinst (by rfl) T.b_isinstance L2.bi_isinstance (pa_cons (pv 0) (pa_cons (pe_bltn (v := .ty "bool") (by rfl) T.b_bool L2.bi_bool (by rfl)) pa_nil)))))))), ?_⟩
  refine ⟨_, rfl, _, _, _, true, rfl, .int i, kit_same _, true, rfl, iteT ?_⟩
  exact ⟨_, rfl, _, _, _, false, rfl, .int i, L2.kit_ib, false, rfl, q⟩

def spCellAt (K : PySem.W.Frag) : Sp := fun vs H Q _ => ∃ (a : Addr) (ns : List Int) (k : Int), vs = [.ref a, .int k] ∧ SqL K H a (ns.map V.int) ∧ 0 ≤ k ∧ ∀ v : Int, Q (.int v) H
theorem ok_law_cell_at (T : Txt K mg t_LEAD_BITS) : Df P w K mg base 1 "_law_cell_at" ["script", "k"] (spCellAt K) := by
  refine T.d_law_cell_at.ok sc_law_cell_at (fun vs H Q E h => ?_) (fun f cdv A outer s H vs Q E hr h => ?_)
  · obtain ⟨_, _, _, rfl, _⟩ := h; rfl
  obtain ⟨a, ns, k, rfl, hS, k0, q⟩ := h
  have nd := sc_law_cell_at.nd
  refine ⟨_, (pss_cons (ps_if (pt_cmpR op_lt (pv 1) (pe_callB call_len_seq (by rfl) T.b_len L2.bi_len (pa_cons (pv 0) pa_nil)) (nomark _)) (pss_one (ps_ret (pe_ix ix_list (pv 0) (pv 1) (fun _ _ => rfl)))) pss_nil) (pss_one (ps_ret pe_int))), ?_⟩
  refine ⟨_, rfl, _, rfl, a, _, rfl, .inl hS, _, _, rfl, rfl, _, rfl, ?_⟩
  refine ite2 (fun c => ?_) (fun c => q 0)
  have hk := dec c
  rw [List.length_map] at hk
  obtain ⟨v, hv, _⟩ := atI_in k0 hk
  exact ⟨_, rfl, _, rfl, a, _, _, _, rfl, rfl, hS, hv, q v⟩

def spNext : Sp := fun vs H Q _ => ∃ (r : Addr) (a b : Int), vs = [.ref r, .int 0] ∧ H r = some (.tup [.int a, .int b]) ∧ 0 ≤ a ∧ a ≤ 10000 ∧ 1 ≤ b ∧ b ≤ 10000 ∧ ∀ t H', Same H H' → H' t = some (.tup [.int 0, .int 1, .int 1, .int (-(a / b))]) → Q (.ref t) H'
theorem ok_next_turn (T : Txt K mg t_LEAD_BITS) : Df P w K mg base 1 "next_turn" ["rests", "bits"] spNext := by
  refine T.d_next_turn.ok sc_next_turn (fun vs H Q E h => ?_) (fun f cdv A outer s H vs Q E hr h => ?_)
  · obtain ⟨_, _, _, rfl, _⟩ := h; rfl
  obtain ⟨r, a, b, rfl, hR, a0, a1, b0, b1, q⟩ := h
  have nd := sc_next_turn.nd
  have i0 : atI [V.int a, V.int b] 0 = some (.int a) := rfl
  have i1 : atI [V.int a, V.int b] 1 = some (.int b) := rfl
  have ba : bts a ≤ 64 := bts_le (by omega)
  have bb : bts b ≤ 64 := bts_le (by omega)
  refine ⟨_, (pss_cons (ps_set (i := 2) nd rfl (Or.inl rfl) (pe_callB (call_min2 rfl) (by rfl) T.b_min L2.bi_min (pa_cons (pe_bm0 PySem.F.plainAttrs_int PySem.F.slot_int_bit_length PySem.F.type_int_bit_length mt_bits (pe_ix ix_tup (pv 0) pe_int (fun _ _ => rfl))) (pa_cons (pe_bm0 PySem.F.plainAttrs_int PySem.F.slot_int_bit_length PySem.F.type_int_bit_length mt_bits (pe_ix ix_tup (pv 0) pe_int (fun _ _ => rfl))) pa_nil)))) (pss_cons (ps_if (pt_cmpR op_gt (pv 2) (pe_op op_add (pv 1) (pe_glob (v := .int 128) (by rfl) T.g_LEAD_BITS ⟨_, rfl⟩)) (nomark _)) pss_none pss_nil) (pss_one (ps_ret (pe_tup (pa_cons pe_int (pa_cons pe_int (pa_cons pe_int (pa_cons (pe_un un_neg (pe_op op_fdivB (pe_ix ix_tup (pv 0) pe_int (fun _ _ => rfl)) (pe_ix ix_tup (pv 0) pe_int (fun _ _ => rfl)))) pa_nil))))))))), ?_⟩
  refine ⟨_, rfl, r, _, _, _, rfl, rfl, SqT.of hR, i0, rfl, _, rfl, rfl, _, rfl, r, _, _, _, rfl, rfl, SqT.of hR, i1, rfl, _, rfl, rfl, _, _, rfl, ?_⟩
  refine ⟨_, rfl, _, rfl, _, _, rfl, rfl, _, _, rfl, rfl, _, rfl, ?_⟩
  refine ite2 (fun c => ?_) (fun _ => ?_)
  · exfalso
    have c' := dec c
    split at c' <;> omega
  refine ⟨_, rfl, r, _, _, _, rfl, rfl, SqT.of hR, i0, _, rfl, r, _, _, _, rfl, rfl, SqT.of hR, i1, _, _, rfl, rfl, div_small (by omega) (by omega), _, rfl, (by show 4 ≤ sizeLine; decide), fun t ht => ?_⟩
  exact q t _ (same_new (Same.refl _) ht) upd_same
def spTurnOn : Sp := fun vs H Q _ => ∃ (r1 r2 : Addr) (x y k : Int), vs = [.ref r1, .ref r2] ∧ H r1 = some (.tup [.int x, .int y]) ∧ H r2 = some (.tup [.int 0, .int 1, .int 1, .int k]) ∧ -10000 ≤ k ∧ k ≤ 10000 ∧ ∀ t H', Same H H' → H' t = some (.tup [.int y, .int (x + k * y)]) → Q (.ref t) H'
theorem ok_turned_on (T : Txt K mg t_LEAD_BITS) : Df P w K mg base 1 "turned_on" ["pair", "turn"] spTurnOn := by
  refine T.d_turned_on.ok sc_turned_on (fun vs H Q E h => ?_) (fun f cdv A outer s H vs Q E hr h => ?_)
  · obtain ⟨_, _, _, _, _, rfl, _⟩ := h; rfl
  obtain ⟨r1, r2, x, y, k, rfl, h1, h2, k0, k1, q⟩ := h
  have nd := sc_turned_on.nd
  have p0 : atI [V.int x, V.int y] 0 = some (.int x) := rfl
  have p1 : atI [V.int x, V.int y] 1 = some (.int y) := rfl
  have t0 : atI [V.int 0, V.int 1, V.int 1, V.int k] 0 = some (.int 0) := rfl
  have t1 : atI [V.int 0, V.int 1, V.int 1, V.int k] 1 = some (.int 1) := rfl
  have t2 : atI [V.int 0, V.int 1, V.int 1, V.int k] 2 = some (.int 1) := rfl
  have t3 : atI [V.int 0, V.int 1, V.int 1, V.int k] 3 = some (.int k) := rfl
  refine ⟨_, (pss_one (ps_ret (pe_tup (pa_cons (pe_op op_add (pe_op op_mulB (pe_ix ix_tup (pv 1) pe_int (fun _ _ => rfl)) (pe_ix ix_tup (pv 0) pe_int (fun _ _ => rfl))) (pe_op op_mulB (pe_ix ix_tup (pv 1) pe_int (fun _ _ => rfl)) (pe_ix ix_tup (pv 0) pe_int (fun _ _ => rfl)))) (pa_cons (pe_op op_add (pe_op op_mulB (pe_ix ix_tup (pv 1) pe_int (fun _ _ => rfl)) (pe_ix ix_tup (pv 0) pe_int (fun _ _ => rfl))) (pe_op op_mulB (pe_ix ix_tup (pv 1) pe_int (fun _ _ => rfl)) (pe_ix ix_tup (pv 0) pe_int (fun _ _ => rfl)))) pa_nil))))), ?_⟩
  refine ⟨_, rfl, r2, _, _, _, rfl, rfl, SqT.of h2, t0, _, rfl, r1, _, _, _, rfl, rfl, SqT.of h1, p0, _, _, rfl, rfl, mul_small (by decide) (by decide), _, rfl, r2, _, _, _, rfl, rfl, SqT.of h2, t1, _, rfl, r1, _, _, _, rfl, rfl, SqT.of h1, p1, _, _, rfl, rfl, mul_small (by decide) (by decide), _, _, rfl, rfl, ?_⟩
  refine ⟨_, rfl, r2, _, _, _, rfl, rfl, SqT.of h2, t2, _, rfl, r1, _, _, _, rfl, rfl, SqT.of h1, p0, _, _, rfl, rfl, mul_small (by decide) (by decide), _, rfl, r2, _, _, _, rfl, rfl, SqT.of h2, t3, _, rfl, r1, _, _, _, rfl, rfl, SqT.of h1, p1, _, _, rfl, rfl, mul_small (by omega) (by omega), _, _, rfl, rfl, ?_⟩
  refine ⟨(by show 2 ≤ sizeLine; decide), fun t ht => ?_⟩
  have e1 : 0 * x + 1 * y = y := by omega
  have e2 : 1 * x + k * y = x + k * y := by omega
  dsimp only
  rw [e1, e2]
  exact q t _ (same_new (Same.refl _) ht) upd_same
def spEuclid : Sp := fun vs H Q _ => ∃ (n st : Int), vs = [.int n, .int (st % n), .int 0] ∧ 1 ≤ n ∧ n ≤ 10000 ∧ ∀ g c d t H', 0 ≤ g → Eh.Bk st n g c 0 d → Same H H' → H' t = some (.tup [.int g, .int c, .int 0, .int d]) → Q (.ref t) H'
theorem ok_euclid (T : Txt K mg t_LEAD_BITS) : Df P w K mg base 2 "euclid" ["one", "other", "bits"] spEuclid := by
  have D_next_turn := ok_next_turn (P := P) (w := w) (base := base) T
  have D_turned_on := ok_turned_on (P := P) (w := w) (base := base) T
  refine T.d_euclid.ok sc_euclid (fun vs H Q E h => ?_) (fun f cdv A outer s H vs Q E hr h => ?_)
  · obtain ⟨_, _, rfl, _⟩ := h; rfl
  obtain ⟨n, st, rfl, n1, n2, q⟩ := h
  have nd := sc_euclid.nd
  have b0 := Eh.bk0E (st := st) (show 0 < n by omega)
  refine ⟨_, (pss_cons (ps_set (i := 3) nd rfl (Or.inl rfl) (pe_tup (pa_cons (pv 0) (pa_cons (pv 1) pa_nil)))) (pss_cons (ps_set (i := 4) nd rfl (Or.inl rfl) (pe_tup (pa_cons pe_int (pa_cons pe_int pa_nil)))) (pss_cons (ps_while PassesOwn.never (pt_cmpR op_gt (pe_bm0 PySem.F.plainAttrs_int PySem.F.slot_int_bit_length PySem.F.type_int_bit_length mt_bits (pe_ix ix_tup (pv 3) pe_int (fun _ _ => rfl))) (pv 2) (nomark _)) (pss_cons (ps_set (i := 5) nd rfl (Or.inl rfl) (pe_def D_next_turn (hr.mono (by decide)) (by rfl) (pa_cons (pv 3) (pa_cons (pv 2) pa_nil)))) (pss_cons (ps_set (i := 3) nd rfl (Or.inl rfl) (pe_def D_turned_on (hr.mono (by decide)) (by rfl) (pa_cons (pv 3) (pa_cons (pv 5) pa_nil)))) (pss_one (ps_set (i := 4) nd rfl (Or.inl rfl) (pe_def D_turned_on (hr.mono (by decide)) (by rfl) (pa_cons (pv 4) (pa_cons (pv 5) pa_nil)))))))) (pss_one (ps_ret (pe_tup (pa_cons (pe_ix ix_tup (pv 3) pe_int (fun _ _ => rfl)) (pa_cons (pe_ix ix_tup (pv 4) pe_int (fun _ _ => rfl)) (pa_cons (pe_ix ix_tup (pv 3) pe_int (fun _ _ => rfl)) (pa_cons (pe_ix ix_tup (pv 4) pe_int (fun _ _ => rfl)) pa_nil)))))))))), ?_⟩
  refine ⟨_, rfl, _, rfl, (by show 2 ≤ sizeLine; decide), fun ra hra => ?_⟩
  refine ⟨(by show 2 ≤ sizeLine; decide), fun ca hca => ?_⟩
  have sm0 : Same H (upd (upd H ra (.tup [.int n, .int (st % n)])) ca (.tup [.int 0, .int 1])) := same_new (same_new (Same.refl _) hra) hca
  have hr0 : upd (upd H ra (.tup [.int n, .int (st % n)])) ca (.tup [.int 0, .int 1]) ra = some (.tup [.int n, .int (st % n)]) := (upd_ne (ne_of_none upd_same hca)).trans upd_same
  have hc0 : upd (upd H ra (.tup [.int n, .int (st % n)])) ca (.tup [.int 0, .int 1]) ca = some (.tup [.int 0, .int 1]) := upd_same
  generalize upd (upd H ra (.tup [.int n, .int (st % n)])) ca (.tup [.int 0, .int 1]) = H0 at sm0 hr0 hc0 ⊢
  refine ⟨fun m σ H' => Same H H' ∧ ∃ (ra ca : Addr) (r c lr lc : Int) (tv : Option V), σ = [some (.int n), some (.int (st % n)), some (.int 0), some (.ref ra), some (.ref ca), tv] ∧ H' ra = some (.tup [.int r, .int lr]) ∧ H' ca = some (.tup [.int c, .int lc]) ∧ 0 ≤ r ∧ r ≤ 10000 ∧ 0 ≤ lr ∧ lr ≤ 10000 ∧ Eh.Bk st n r c lr lc ∧ m = lr.toNat,
    ⟨_, sm0, ra, ca, n, 0, st % n, 1, none, rfl, hr0, hc0, by omega, by omega, b0.1, by omega, b0.2.2, rfl⟩, ?_⟩
  rintro m σ H' ⟨sm, ra, ca, r, c, lr, lc, tv, rfl, hR, hC, r0, r1, l0, l1, bk, rfl⟩
  have i0 : atI [V.int r, V.int lr] 0 = some (.int r) := rfl
  have i1 : atI [V.int r, V.int lr] 1 = some (.int lr) := rfl
  have c0 : atI [V.int c, V.int lc] 0 = some (.int c) := rfl
  have c1 : atI [V.int c, V.int lc] 1 = some (.int lc) := rfl
  refine ⟨_, rfl, ra, _, _, _, rfl, rfl, SqT.of hR, i1, rfl, _, rfl, rfl, _, rfl, _, _, rfl, rfl, _, rfl, ?_⟩
  refine ite2 (fun c' => ?_) (fun c' => ?_)
  · have ne := bts_pos (dec c')
    have t := Eh.bktE r0 l0 ne bk
    have dl := Eh.div_le r0 (show 0 < lr by omega)
    refine ⟨_, fun _ _ h => h, ?_⟩
    refine ⟨_, rfl, _, rfl, ra, r, lr, rfl, hR, r0, r1, by omega, l1, fun ta H1 sm1 h1 => ?_⟩
    refine ⟨_, rfl, _, rfl, ra, ta, r, lr, _, rfl, sm1 _ _ hR, h1, by omega, by omega, fun rb H2 sm2 h2 => ?_⟩
    refine ⟨_, rfl, _, rfl, ca, ta, c, lc, _, rfl, sm2 _ _ (sm1 _ _ hC), sm2 _ _ h1, by omega, by omega, fun cb H3 sm3 h3 => ?_⟩
    have e1 : r + -(r / lr) * lr = r - r / lr * lr := by rw [Int.neg_mul]; omega
    have e2 : c + -(r / lr) * lc = c - r / lr * lc := by rw [Int.neg_mul]; omega
    rw [e1] at h2
    rw [e2] at h3
    exact ⟨_, t.2.2.1, ((sm.trans sm1).trans sm2).trans sm3, rb, cb, _, _, _, _, _, rfl, sm3 _ _ h2, h3, l0, l1, t.1, by omega, t.2.2.2, rfl⟩
  · have z : lr = 0 := bts_zero (ndec c')
    subst z
    refine ⟨_, rfl, ra, _, _, _, rfl, rfl, SqT.of hR, i0, _, rfl, ca, _, _, _, rfl, rfl, SqT.of hC, c0, _, rfl, ra, _, _, _, rfl, rfl, SqT.of hR, i1, _, rfl, ca, _, _, _, rfl, rfl, SqT.of hC, c1, (by show 4 ≤ sizeLine; decide), fun t ht => ?_⟩
    exact q r c lc t _ r0 bk (same_new sm ht) upd_same

def spBack : Sp := fun vs H Q _ => ∃ st n : Int, vs = [.int st, .int n] ∧ 1 ≤ n ∧ n ≤ 10000 ∧ Eh.G st n = 1 ∧ ∀ (u : Int) H', 1 ≤ u → u ≤ n → (st * u - 1) % n = 0 → Same H H' → Q (.int u) H'
theorem ok_back (T : Txt K mg t_LEAD_BITS) : Df P w K mg base 3 "back" ["step", "n"] spBack := by
  have D_euclid := ok_euclid (P := P) (w := w) (base := base) T
  refine T.d_back.ok sc_back (fun vs H Q E h => ?_) (fun f cdv A outer s H vs Q E hr h => ?_)
  · obtain ⟨_, _, rfl, _⟩ := h; rfl
  obtain ⟨st, n, rfl, n1, n2, g1, q⟩ := h
  have nd := sc_back.nd
  refine ⟨_, (pss_cons (ps_set (i := 2) nd rfl (Or.inl rfl) (pe_def D_euclid (hr.mono (by decide)) (by rfl) (pa_cons (pv 1) (pa_cons (pe_op op_mod (pv 0) (pv 1)) (pa_cons pe_int pa_nil))))) (pss_cons (ps_if (pt_cmpR op_ne (pe_ix ix_tup (pv 2) pe_int (fun _ _ => rfl)) pe_int (nomark _)) (pss_one ps_never) pss_nil) (pss_one (ps_ret (pe_op op_add (pe_op op_mod (pe_op op_sub (pe_ix ix_tup (pv 2) pe_int (fun _ _ => rfl)) pe_int) (pv 1)) pe_int))))), ?_⟩
  refine ⟨_, rfl, _, rfl, _, rfl, _, _, rfl, rfl, (show 0 < n by omega), n, st, rfl, n1, n2, fun g c d t H1 g0 bk sm1 h1 => ?_⟩
  have i0 : atI [V.int g, V.int c, V.int 0, V.int d] 0 = some (.int g) := rfl
  have i1 : atI [V.int g, V.int c, V.int 0, V.int d] 1 = some (.int c) := rfl
  have eg : g = 1 := (Eh.out g0 bk.g rfl).trans g1
  refine ⟨_, rfl, t, _, _, _, rfl, rfl, SqT.of h1, i0, rfl, _, rfl, iteNS (congrArg V.int eg) ?_⟩
  have o := Eh.bkoE (show 0 < n by omega) g0 bk rfl g1
  refine ⟨_, rfl, t, _, _, _, rfl, rfl, SqT.of h1, i1, _, _, rfl, rfl, _, rfl, _, _, rfl, rfl, (show 0 < n by omega), _, _, rfl, rfl, ?_⟩
  exact q _ _ o.1 o.2.1 o.2.2 sm1

def spPrimes : Sp := fun vs H Q _ => ∃ n : Nat, vs = [.int n] ∧ 1 ≤ n ∧ n ≤ 420 ∧ ∀ r H' ps, Same H H' → H r = none → H' r = some (.lst ((ps.map Prod.fst).map V.int)) → Pt.Parts n ps → Q (.ref r) H'
theorem ok_law_primes (T : Txt K mg t_LEAD_BITS) : Df P w K mg base 1 "_law_primes" ["n"] spPrimes := by
  refine T.d_law_primes.ok sc_law_primes (fun vs H Q E h => ?_) (fun f cdv A outer s H vs Q E hr h => ?_)
  · obtain ⟨_, rfl, _⟩ := h; rfl
  obtain ⟨n, rfl, n1, n2, q⟩ := h
  have nd := sc_law_primes.nd
  refine ⟨_, (pss_cons (ps_set (i := 1) nd rfl (Or.inl rfl) (pe_lst pa_nil)) (pss_cons (ps_set (i := 2) nd rfl (Or.inl rfl) pe_int) (pss_cons (ps_while PassesOwn.never (pt_cmpR op_gt (pv 0) pe_int (nomark _)) (pss_cons (ps_if (pt_cmpR op_eq (pe_op op_mod (pv 0) (pv 2)) pe_int (nomark _)) (pss_one (ps_expr (pe_bm PySem.F.plainAttrs_list PySem.F.slot_list_append PySem.F.type_list_append mt_append (pv 1) (pa_cons (pv 2) pa_nil)))) pss_nil) (pss_cons (ps_while PassesOwn.never (pt_cmpR op_eq (pe_op op_mod (pv 0) (pv 2)) pe_int (nomark _)) (pss_one (ps_set (i := 0) nd rfl (Or.inl rfl) (pe_op op_fdivB (pv 0) (pv 2))))) (pss_one (ps_set (i := 2) nd rfl (Or.inl rfl) (pe_op op_add (pv 2) pe_int)))))) (pss_one (ps_ret (pv 1)))))), ?_⟩
  refine ⟨Nat.zero_le _, fun r hr0 => ?_⟩
  refine ⟨fun m σ H' => Same H H' ∧ ∃ (left p : Int) (ps : List (Int × Int)), σ = [some (.int left), some (.ref r), some (.int p)] ∧ H' r = some (.lst ((ps.map Prod.fst).map V.int)) ∧ Pt.PInv n ps left p ∧ 2 ≤ p ∧ p ≤ n + 2 ∧ 1 ≤ left ∧ left ≤ n ∧ (ps.length : Int) ≤ p ∧ m = (n + 2 - p).toNat,
    ⟨_, same_upd (Same.refl H) hr0, n, 2, [], rfl, upd_same, Pt.start n, by omega, by omega, by omega, by omega, by simp, rfl⟩, ?_⟩
  rintro m σ H' ⟨sm, left, p, ps, rfl, hr1, pi, p2, pn, l1, ln, pl, rfl⟩
  refine ⟨_, rfl, _, _, rfl, rfl, _, rfl, ?_⟩
  refine ite2 (fun c => ?_) (fun c => ?_)
  · have lg := dec c
    have ple : p ≤ left := by
      rcases Int.lt_or_le left p with z | z
      · exact absurd (Int.dvd_refl left) (pi.nod left (by omega) z)
      · exact z
    refine ⟨_, fun _ _ h => h, ?_⟩
    refine ⟨_, rfl, _, rfl, _, _, rfl, rfl, (show 0 < p by omega), rfl, _, rfl, ?_⟩
    refine ite2 (fun d => ?_) (fun d => ?_)
    · have d0 := vint d
      refine ⟨_, rfl, .inl ⟨rfl, _, SqL.of hr1⟩, _, rfl, r, _, _, rfl, rfl, hr1, by rw [List.length_map, List.length_map]; exact size1 (by omega), ?_⟩
      have hr2 : upd H' r (.lst ((ps.map Prod.fst).map V.int ++ [.int p])) r = some (.lst (((ps.map Prod.fst) ++ [p]).map V.int)) := by rw [upd_same, List.map_append]; rfl
      have sm2 : Same H (upd H' r (.lst ((ps.map Prod.fst).map V.int ++ [.int p]))) := same_upd sm hr0
      generalize upd H' r (.lst ((ps.map Prod.fst).map V.int ++ [.int p])) = H2 at hr2 sm2 ⊢
      refine ⟨fun m σ H3 => H3 = H2 ∧ ∃ (l2 z : Int), σ = [some (.int l2), some (.ref r), some (.int p)] ∧ Pt.QInv left p z ∧ l2 * z = left ∧ 1 ≤ l2 ∧ l2 ≤ left ∧ m = l2.toNat,
        ⟨_, rfl, left, 1, rfl, Pt.q0 left p, by omega, l1, by omega, rfl⟩, ?_⟩
      rintro m' σ H3 ⟨rfl, l2, z, rfl, qi, e, l21, l2l, rfl⟩
      refine ⟨_, rfl, _, rfl, _, _, rfl, rfl, (show 0 < p by omega), rfl, _, rfl, ?_⟩
      refine ite2 (fun d2 => ?_) (fun d2 => ?_)
      · have d2' := vint d2
        obtain ⟨t, ht⟩ := Int.dvd_of_emod_eq_zero d2'
        have et : l2 / p = t := by rw [ht]; exact Int.mul_ediv_cancel_left _ (by omega)
        have t1 : 1 ≤ t := by
          rcases Int.lt_or_le t 1 with y | y
          · have := Int.mul_le_mul_of_nonneg_left (show t ≤ 0 by omega) (show 0 ≤ p by omega); omega
          · exact y
        have tl : t < l2 := by have := Int.mul_le_mul_of_nonneg_right p2 (show 0 ≤ t by omega); omega
        have dz : left % (z * p) = 0 := Int.emod_eq_zero_of_dvd ⟨t, by rw [← e, ht, Int.mul_comm (p * t) z, Int.mul_assoc]⟩
        refine ⟨_, fun _ _ h => h, ?_⟩
        refine ⟨_, rfl, _, rfl, _, _, rfl, rfl, div_small (by omega) (by omega), ?_⟩
        dsimp only
        rw [et]
        exact ⟨t.toNat, by omega, rfl, t, z * p, rfl, Pt.q1 p2 qi dz, by rw [← e, ht, Int.mul_comm z p, ← Int.mul_assoc, Int.mul_comm t p], t1, by omega, rfl⟩
      · have nd2 := nvint d2
        have zp := qi.pos
        have qe : Pt.QEnd left p z := Pt.q2 qi fun y => nd2 (by
          obtain ⟨t, ht⟩ := Int.dvd_of_emod_eq_zero y
          rw [← e, Int.mul_comm l2 z, Int.mul_assoc] at ht
          have := Int.eq_of_mul_eq_mul_left (show z ≠ 0 by omega) ht
          rw [this]; exact Int.mul_emod_right _ _)
        have z1 : z > 1 := by
          rcases Int.lt_or_le 1 z with y | y
          · exact y
          · have : z = 1 := by omega
            rw [this, Int.mul_one] at e
            exact absurd d0 (by rw [← e]; exact nd2)
        have lz : left / z = l2 := by rw [← e]; exact Int.mul_ediv_cancel _ (by omega)
        have pi2 := Pt.turnA p2 pi qe z1
        rw [lz] at pi2
        refine ⟨_, rfl, _, _, rfl, rfl, ?_⟩
        refine ⟨(n + 2 - (p + 1)).toNat, by omega, sm2, l2, p + 1, ps ++ [(p, z)], rfl, ?_, pi2, by omega, by omega, l21, by omega, by simp; omega, rfl⟩
        rw [List.map_append]; exact hr2
    · have nd0 := nvint d
      have qe : Pt.QEnd left p 1 := Pt.q2 (Pt.q0 left p) (by rw [Int.one_mul]; exact nd0)
      refine ⟨fun m σ H3 => H3 = H' ∧ σ = [some (.int left), some (.ref r), some (.int p)] ∧ m = 0, ⟨0, rfl, rfl, rfl⟩, ?_⟩
      rintro m' σ H3 ⟨rfl, rfl, rfl⟩
      refine ⟨_, rfl, _, rfl, _, _, rfl, rfl, (show 0 < p by omega), rfl, _, rfl, ite2 (fun c => absurd (vint c) nd0) (fun _ => ?_)⟩
      refine ⟨_, rfl, _, _, rfl, rfl, ?_⟩
      exact ⟨(n + 2 - (p + 1)).toNat, by omega, sm, left, p + 1, ps, rfl, hr1, Pt.turnB pi qe (by omega), by omega, by omega, l1, ln, by omega, rfl⟩
  · have := ndec c
    exact ⟨_, rfl, q r H' ps sm hr0 hr1 (Pt.endB pi l1 (by omega))⟩

def spWheelW : Sp := fun vs H Q _ => ∃ c : Int, vs = [.int c] ∧ ∀ (n : Nat) H' ps, 1 ≤ n → n ≤ 420 → Pt.Parts n ps → ps.length ≤ 2 → Same H H' → Q (.int n) H'
theorem ok_law_wheel (T : Txt K mg t_LEAD_BITS) : Df P w K mg base 2 "_law_wheel" ["cell"] spWheelW := by
  have D_law_primes := ok_law_primes (P := P) (w := w) (base := base) T
  refine T.d_law_wheel.ok sc_law_wheel (fun vs H Q E h => ?_) (fun f cdv A outer s H vs Q E hr h => ?_)
  · obtain ⟨_, rfl, _⟩ := h; rfl
  obtain ⟨c, rfl, q⟩ := h
  have nd := sc_law_wheel.nd
  refine ⟨_, (pss_cons (ps_set (i := 1) nd rfl (Or.inl rfl) (pe_op op_add pe_int (pe_op op_mod (pe_op op_fdivB (pv 0) pe_int) (pe_ix ix_list (pe_lst (pa_cons pe_int (pa_cons pe_int (pa_cons pe_int pa_nil)))) (pe_op op_mod (pv 0) pe_int) (fun _ _ => rfl))))) (pss_cons (ps_for PassesOwn.never rfl (pi_list (pe_slice sl_list (pe_def D_law_primes (hr.mono (by decide)) (by rfl) (pa_cons (pv 1) pa_nil)) (po_some pe_int) po_none)) (pg_name (i := 2) nd rfl (Or.inl rfl)) (pss_one (ps_while PassesOwn.never (pt_cmpR op_eq (pe_op op_mod (pv 1) (pv 2)) pe_int (nomark _)) (pss_one (ps_set (i := 1) nd rfl (Or.inl rfl) (pe_op op_fdivB (pv 1) (pv 2))))))) (pss_one (ps_ret (pv 1))))), ?_⟩
  have m0 := Int.emod_nonneg c (show (3 : Int) ≠ 0 by decide)
  have m1 := Int.emod_lt_of_pos c (show (0 : Int) < 3 by decide)
  obtain ⟨x, hx, x1, x2⟩ : ∃ x : Int, atI [V.int 24, V.int 24, V.int 420] (c % 3) = some (.int x) ∧ 1 ≤ x ∧ x ≤ 420 := by
    have h : c % 3 = 0 ∨ c % 3 = 1 ∨ c % 3 = 2 := by omega
    rcases h with h | h | h <;> rw [h]
    · exact ⟨24, rfl, by decide, by decide⟩
    · exact ⟨24, rfl, by decide, by decide⟩
    · exact ⟨420, rfl, by decide, by decide⟩
  refine ⟨_, rfl, _, _, rfl, rfl, div_small (by decide) (by decide), (by show 3 ≤ sizeLine; decide), fun l0 hl0 => ⟨_, rfl, _, _, rfl, rfl, (by show (0 : Int) < _; decide), l0, _, _, _, rfl, rfl, SqL.of upd_same, hx, _, _, rfl, rfl, (show 0 < x by omega), _, _, rfl, rfl, ?_⟩⟩
  have sm0 : Same H (upd H l0 (.lst [V.int 24, V.int 24, V.int 420])) := same_new (Same.refl _) hl0
  generalize upd H l0 (.lst [V.int 24, V.int 24, V.int 420]) = H0 at sm0 ⊢
  have w0 := Int.emod_nonneg (c / 3) (show x ≠ 0 by omega)
  have w1 := Int.emod_lt_of_pos (c / 3) (show 0 < x by omega)
  obtain ⟨n, en, n1, n2⟩ : ∃ n : Nat, 1 + c / 3 % x = (n : Int) ∧ 1 ≤ n ∧ n ≤ 420 := ⟨(1 + c / 3 % x).toNat, by omega, by omega, by omega⟩
  dsimp only
  rw [en]
  refine ⟨_, rfl, n, rfl, n1, n2, fun r1 H1 ps sm1 f1 h1 hp => ⟨_, rfl, r1, _, rfl, SqL.of h1, fun d hd => ?_⟩⟩
  rw [show (2 : Int) = ((2 : Nat) : Int) from rfl, cut_from, ← List.map_drop]
  have smD : Same H1 (upd H1 d (.lst (((ps.drop 2).map Prod.fst).map V.int))) := same_new (Same.refl _) hd
  have hd1 : upd H1 d (.lst (((ps.drop 2).map Prod.fst).map V.int)) d = some (.lst (((ps.drop 2).map Prod.fst).map V.int)) := upd_same
  generalize upd H1 d (.lst (((ps.drop 2).map Prod.fst).map V.int)) = H2 at smD hd1 ⊢
  have smA := (sm0.trans sm1).trans smD
  refine ⟨d, rfl, ⟨_, SqL.of hd1⟩, ?_⟩
  have sub : ∀ i : Nat, (ps.take 2 ++ (ps.drop 2).drop i).Sublist ps := fun i => by
    have h1 := (List.Sublist.refl (ps.take 2)).append (List.drop_sublist i (ps.drop 2))
    rwa [List.take_append_drop] at h1
  have pos : ∀ i : Nat, 1 ≤ Pt.Prd (ps.take 2 ++ (ps.drop 2).drop i) := fun i => Pt.Prd_pos _ fun y hy => hp.row y ((sub i).subset hy)
  refine for_list (xs := ((ps.drop 2).map Prod.fst).map V.int) (fun i σ H3 => H3 = H2 ∧ ∃ o1 : Option V, σ = [some (.int c), some (.int (Pt.Prd (ps.take 2 ++ (ps.drop 2).drop i))), o1] ∧ Pt.Prd (ps.take 2 ++ (ps.drop 2).drop i) ≤ n) ⟨rfl, none, by rw [List.drop_zero, List.take_append_drop, hp.prd]; rfl, by rw [List.drop_zero, List.take_append_drop, hp.prd]; exact Int.le_refl _⟩ (fun i σ H3 _ z => by rw [z.1]; exact SqL.of hd1) ?_ ?_
  · rintro i xv σ H3 hx ⟨rfl, o1, rfl, le⟩
    obtain ⟨p, rfl, ep⟩ := int_at hx
    have ilt : i < (ps.drop 2).length := by have := (List.getElem?_eq_some_iff.mp ep).1; rwa [List.length_map] at this
    have ed : (ps.drop 2).drop i = (ps.drop 2)[i] :: (ps.drop 2).drop (i + 1) := List.drop_eq_getElem_cons ilt
    have ex : (ps.drop 2)[i]? = some (ps.drop 2)[i] := List.getElem?_eq_getElem ilt
    have e1 : (ps.drop 2)[i].1 = p := by rw [List.getElem?_map, ex] at ep; exact Option.some.inj ep
    have mem : (ps.drop 2)[i] ∈ ps := List.mem_of_mem_drop (List.getElem_mem ilt)
    have srt : (ps.take 2 ++ (ps.drop 2).drop i).Pairwise (fun a b => a.1 < b.1) := hp.srt.sublist (sub i)
    have sp := sub (i + 1)
    have M1 := pos (i + 1)
    rw [ed] at srt le ⊢
    have row := hp.row _ mem
    generalize (ps.drop 2)[i] = x at *
    subst e1
    have ne : ∀ y ∈ ps.take 2 ++ (ps.drop 2).drop (i + 1), y.1 ≠ x.1 := fun y hy e => by
      rcases List.mem_append.mp hy with g | g
      · have := (List.pairwise_append.mp srt).2.2 y g x List.mem_cons_self
        omega
      · have := (List.pairwise_cons.mp (List.pairwise_append.mp srt).2.1).1 y g
        omega
    have no := Ps.row_no row (fun y hy => hp.row y (sp.subset hy)) ne
    have eM : Pt.Prd (ps.take 2 ++ x :: (ps.drop 2).drop (i + 1)) = x.2 * Pt.Prd (ps.take 2 ++ (ps.drop 2).drop (i + 1)) := by
      rw [Ps.Prd_app, Ps.Prd_app]
      simp only [Pt.Prd]
      rw [Int.mul_left_comm]
    rw [eM] at le ⊢
    generalize Pt.Prd (ps.take 2 ++ (ps.drop 2).drop (i + 1)) = M at *
    obtain ⟨e, he⟩ := row.pw
    have p2 := row.pr.1
    refine ⟨fun m σ H4 => H4 = H3 ∧ ∃ j : Nat, σ = [some (.int c), some (.int (x.1 ^ j * M)), some (.int x.1)] ∧ x.1 ^ j * M ≤ n ∧ m = j,
      ⟨_, rfl, e + 1, by rw [he]; rfl, by rw [← he]; exact le, rfl⟩, ?_⟩
    rintro m σ H4 ⟨rfl, j, rfl, lj, rfl⟩
    refine ⟨_, rfl, _, rfl, _, _, rfl, rfl, (show 0 < x.1 by omega), rfl, _, rfl, ite2 (fun d' => ?_) (fun d' => ?_)⟩
    · have d0 := vint d'
      cases m with
      | zero => rw [Int.pow_zero, Int.one_mul] at d0; exact absurd (Int.dvd_of_emod_eq_zero d0) no
      | succ k =>
        have pn : x.1 ≤ 420 := by
          have a1 : x.2 ≤ n := by have := Pt.le_Prd ps hp.row _ mem; rw [hp.prd] at this; exact this
          have a2 := (Pt.row_le row).2
          omega
        have ek : x.1 ^ (k + 1) * M / x.1 = x.1 ^ k * M := by
          rw [Int.pow_succ, Int.mul_comm (x.1 ^ k), Int.mul_assoc]; exact Int.mul_ediv_cancel_left _ (by omega)
        refine ⟨_, fun _ _ h => h, ?_⟩
        refine ⟨_, rfl, _, rfl, _, _, rfl, rfl, div_small (by omega) (by omega), ?_⟩
        dsimp only
        rw [ek]
        have ple : x.1 ^ k * M ≤ x.1 ^ (k + 1) * M := by
          have pk : 0 ≤ x.1 ^ k := Int.pow_nonneg (by omega)
          have := Int.mul_le_mul_of_nonneg_left (show 1 ≤ x.1 by omega) pk
          rw [Int.pow_succ]
          exact Int.mul_le_mul_of_nonneg_right (by omega) (by omega)
        exact ⟨k, by omega, rfl, k, rfl, by omega, rfl⟩
    · have d0 := nvint d'
      cases m with
      | zero => exact ⟨rfl, _, by rw [Int.pow_zero, Int.one_mul], by rw [Int.pow_zero, Int.one_mul] at lj; exact lj⟩
      | succ k =>
        refine absurd ?_ d0
        rw [Int.pow_succ, Int.mul_comm (x.1 ^ k), Int.mul_assoc]
        exact Int.mul_emod_right _ _
  · rintro σ H3 ⟨rfl, o1, rfl, le⟩
    rw [List.length_map, List.length_map, List.drop_length, List.append_nil] at le ⊢
    have pp := Ps.parts_sub hp (List.take_sublist 2 ps)
    have p1 := Pt.Prd_pos (ps.take 2) pp.row
    obtain ⟨N, eN⟩ : ∃ N : Nat, Pt.Prd (ps.take 2) = (N : Int) := ⟨(Pt.Prd (ps.take 2)).toNat, by omega⟩
    rw [eN] at pp le p1 ⊢
    exact ⟨_, rfl, q N _ (ps.take 2) (by omega) (by omega) pp (by rw [List.length_take]; omega) smA⟩

def spLay : Sp := fun vs H Q _ => ∃ (r : Addr) (a : List Int) (n : Nat) (p hole many : Int), vs = [.ref r, .int p, .int hole, .int many] ∧ H r = some (.lst (a.map V.int)) ∧ a.length = n ∧ 1 ≤ n ∧ n ≤ 420 ∧ 2 ≤ p ∧ p ∣ (n : Int) ∧
  ∀ H' b, (∀ c o, c ≠ r → H c = some o → H' c = some o) → H' r = some (.lst (b.map V.int)) → b.length = n → (∀ x, Ld.at' b x = Ld.at' a x + Rg.rv n (p, hole, many) x) → Q .non H'
def spRH : Sp := fun vs H Q _ => ∃ (n : Nat) (p hole : Int) (st : Nat), vs = [.int n, .int p, .int hole] ∧ 1 ≤ n ∧ n ≤ 420 ∧ 2 ≤ p ∧ p.toNat ≤ n ∧ (n : Int) / p = st ∧ 0 < st ∧ n = p.toNat * st ∧ ∀ t, H t = none → Q (.ref t) (upd H t (.lst ((rg3 (hole % st) st p.toNat).map V.int)))
theorem ok_ring_holes (T : Txt K mg t_LEAD_BITS) : Df P w K mg base 1 "ring_holes" ["n", "p", "hole"] spRH := by
  refine T.d_ring_holes.ok sc_ring_holes (fun vs H Q E h => ?_) (fun f cdv A outer s H vs Q E hr h => ?_)
  · obtain ⟨_, _, _, _, rfl, _⟩ := h; rfl
  obtain ⟨n, p, hole, st, rfl, n1, n2, p2, pn, est, st0, enp, q⟩ := h
  have nd := sc_ring_holes.nd
  have stn : (st : Int) ≤ n := by rw [← est]; exact Int.ediv_le_self _ (by omega)
  have lo0 := Int.emod_nonneg hole (show (st : Int) ≠ 0 by omega)
  have lo1 := Int.emod_lt_of_pos hole (show (0 : Int) < st by omega)
  refine ⟨_, (pss_cons (ps_set (i := 3) nd rfl (Or.inl rfl) (pe_op op_fdivB (pv 0) (pv 1))) (pss_one (ps_ret (pe_lrng3 rfl (by rfl) T.b_list (by rfl) T.b_range (pa_cons (pe_op op_mod (pv 2) (pv 3)) (pa_cons (pv 0) (pa_cons (pv 3) pa_nil))))))), ?_⟩
  refine ⟨_, rfl, _, rfl, _, _, rfl, rfl, div_small (by omega) (by omega), ?_⟩
  dsimp only
  rw [est]
  refine ⟨_, rfl, _, rfl, _, _, rfl, rfl, (show (0 : Int) < st by omega), _, rfl, _, rfl, _, _, _, rfl, ⟨lo0, by omega, by omega, by omega, by omega, by omega⟩, ?_⟩
  have cn := Rg.cnt_ring st0 (show 0 < p.toNat by omega) enp hole
  have c3 : cnt3 (hole % (st : Int)) (n : Int) (st : Int) = p.toNat := by unfold cnt3; rw [if_pos cn.1]; exact cn.2
  rw [c3]
  exact q
theorem ok_lay_ring (T : Txt K mg t_LEAD_BITS) : Df P w K mg base 2 "lay_ring" ["load", "p", "hole", "many"] spLay := by
  have D_ring_holes := ok_ring_holes (P := P) (w := w) (base := base) T
  refine T.d_lay_ring.ok sc_lay_ring (fun vs H Q E h => ?_) (fun f cdv A outer s H vs Q E hr h => ?_)
  · obtain ⟨_, _, _, _, _, _, rfl, _⟩ := h; rfl
  obtain ⟨r, a, n, p, hole, many, rfl, ha, la, n1, n2, p2, pd, q⟩ := h
  have nd := sc_lay_ring.nd
  obtain ⟨st, est, st0, enp, ple⟩ := Rg.step_of n1 p2 pd
  have stn : (st : Int) ≤ n := by rw [← est]; exact Int.ediv_le_self _ (by omega)
  refine ⟨_, (pss_one (ps_for PassesOwn.never rfl (pi_list (pe_def D_ring_holes (hr.mono (by decide)) (by rfl) (pa_cons (pe_callB call_len_seq (by rfl) T.b_len L2.bi_len (pa_cons (pv 0) pa_nil)) (pa_cons (pv 1) (pa_cons (pv 2) pa_nil))))) (pg_name (i := 4) nd rfl (Or.inl rfl)) (pss_one (ps_asg (pe_op op_add (pe_ix ix_list (pv 0) (pv 4) (fun _ _ => rfl)) (pv 3)) (pg_sub (pv 0) (pv 4) set_list))))), ?_⟩
  refine ⟨_, rfl, r, _, rfl, .inl (SqL.of ha), _, rfl, _, rfl, n, p, hole, st, by rw [mlen la]; rfl, n1, n2, p2, ple, est, st0, enp, fun t ht => ⟨t, rfl, ⟨_, SqL.of upd_same⟩, ?_⟩⟩
  have nt : r ≠ t := ne_of_none ha ht
  have kp0 : ∀ c o, c ≠ r → H c = some o → upd H t (.lst ((rg3 (hole % st) st p.toNat).map V.int)) c = some o := fun c o _ h => (upd_ne (ne_of_none h ht)).trans h
  have ha0 : upd H t (.lst ((rg3 (hole % st) st p.toNat).map V.int)) r = some (.lst (a.map V.int)) := (upd_ne nt).trans ha
  have ht0 : upd H t (.lst ((rg3 (hole % st) st p.toNat).map V.int)) t = some (.lst ((rg3 (hole % st) st p.toNat).map V.int)) := upd_same
  generalize upd H t (.lst ((rg3 (hole % st) st p.toNat).map V.int)) = H0 at kp0 ha0 ht0 ⊢
  have rl : ((rg3 (hole % st) st p.toNat).map V.int).length = p.toNat := by unfold rg3; rw [List.length_map, List.length_map, List.length_range]
  refine for_list (xs := (rg3 (hole % st) st p.toNat).map V.int) (fun i σ H2 => (∀ c o, c ≠ r → H c = some o → H2 c = some o) ∧ H2 t = some (.lst ((rg3 (hole % st) st p.toNat).map V.int)) ∧ ∃ (b : List Int) (o1 : Option V), σ = [some (.ref r), some (.int p), some (.int hole), some (.int many), o1] ∧ H2 r = some (.lst (b.map V.int)) ∧ b.length = n ∧
      ∀ x : Int, Ld.at' b x = Ld.at' a x + (if (x - hole) % st = 0 ∧ (x % n) / st < (i : Int) then many else 0))
    ⟨kp0, ht0, a, none, rfl, ha0, la, Rg.lay0 (by omega) st0 hole many a⟩ (fun i σ H2 _ z => SqL.of z.2.1) ?_ ?_
  · rintro i xv σ H2 hx ⟨kp, ht2, b, o1, rfl, hb, lb, inv⟩
    obtain ⟨k, rfl, ek⟩ := int_at hx
    have hi : i < p.toNat := by have := (List.getElem?_eq_some_iff.mp hx).1; rwa [rl] at this
    have ek' : k = hole % st + (i : Int) * st := by
      unfold rg3 at ek
      rw [List.getElem?_map, List.getElem?_range hi] at ek
      exact (Option.some.inj ek).symm
    subst ek'
    obtain ⟨y0, y1, nx⟩ := Rg.lay1 st0 enp hi lb inv
    refine ⟨_, rfl, _, rfl, r, _, _, _, rfl, rfl, SqL.of hb, atI_k y0 (by omega), _, rfl, _, _, rfl, rfl, _, rfl, _, rfl, r, _, _, _, rfl, rfl, hb, ixN_in y0 (by rw [mlen lb]; exact y1), ?_⟩
    rw [set_int]
    exact ⟨fun c o ne h => (upd_ne ne).trans (kp c o ne h), (upd_ne (Ne.symm nt)).trans ht2, _, _, rfl, upd_same, by rw [List.length_set, lb], nx⟩
  · rintro σ H2 ⟨kp, _, b, o1, rfl, hb, lb, inv⟩
    rw [rl] at inv
    refine q H2 b kp hb lb fun x => ?_
    rw [Rg.lay2 st0 (show 0 < p.toNat by omega) enp inv x]
    unfold Rg.rv
    rw [est]

def spLaid : Sp := fun vs H Q _ => ∃ (n : Nat) (r : Addr) (rows : List (Int × Int × Int)) (ps : List (Int × Int)), vs = [.int n, .ref r] ∧ 1 ≤ n ∧ n ≤ 420 ∧ TrAt H r rows ∧ Pt.Parts n ps ∧ (∀ x ∈ rows, x.1 ∈ ps.map Prod.fst) ∧
  (∀ t H' b, Same H H' → H t = none → H' t = some (.lst (b.map V.int)) → b.length = n → (∀ x, Ld.at' b x = Rg.rvs n rows x) → Q (.ref t) H')
theorem ok_laid (T : Txt K mg t_LEAD_BITS) : Df P w K mg base 3 "laid" ["n", "rows"] spLaid := by
  have D_parts := ok_parts (P := P) (w := w) (base := base) T
  have D_lay_ring := ok_lay_ring (P := P) (w := w) (base := base) T
  refine T.d_laid.ok sc_laid (fun vs H Q E h => ?_) (fun f cdv A outer s H vs Q E hr h => ?_)
  · obtain ⟨_, _, _, _, rfl, _⟩ := h; rfl
  obtain ⟨n, r, rows, ps, rfl, n1, n2, tr, hp, prm, q⟩ := h
  have nd := sc_laid.nd
  refine ⟨_, (pss_cons (ps_setcomp (cap := []) (tgs := ["prime", "power"]) (i := 2) nd rfl (Or.inl rfl) rfl rfl rfl (by decide +kernel) (by decide +kernel) (free_ok (by rfl)) sub_nil cap_nil (leaves_tup2 (by decide) (by decide)) (pi_list (pe_def D_parts (hr.mono (by decide)) (by rfl) (pa_cons (pv 0) pa_nil))) (fun C s H fp => ⟨(pg_tup rfl (pgs_cons (pg_name (i := 0) (show (["prime", "power"] : List Str).Nodup by decide +kernel) rfl (Or.inl rfl) (Or.inr rfl)) (pgs_cons (pg_name (i := 1) (show (["prime", "power"] : List Str).Nodup by decide +kernel) rfl (Or.inl rfl) (Or.inr rfl)) pgs_nil))), pts_nil, (pv 0)⟩)) (pss_cons (ps_set (i := 3) nd rfl (Or.inl rfl) (pe_op op_rep (pe_lst (pa_cons pe_int pa_nil)) (pv 0))) (pss_cons (ps_for PassesOwn.never rfl (pi_list (pv 1)) (pg_tup rfl (pgs_cons (pg_name (i := 4) nd rfl (Or.inl rfl)) (pgs_cons (pg_name (i := 5) nd rfl (Or.inl rfl)) (pgs_cons (pg_name (i := 6) nd rfl (Or.inl rfl)) pgs_nil)))) (pss_cons (ps_if (pt_cmpR op_notIn_seq (pv 4) (pv 2) (by rfl)) (pss_one ps_never) pss_nil) (pss_one (ps_expr (pe_def D_lay_ring (hr.mono (by decide)) (by rfl) (pa_cons (pv 3) (pa_cons (pv 4) (pa_cons (pv 5) (pa_cons (pv 6) pa_nil))))))))) (pss_one (ps_ret (pv 3)))))), ?_⟩
  refine ⟨_, rfl, _, rfl, by omega, by omega, fun r1 H1 ps' sm1 _ pa hp' => ?_⟩
  have e := Pt.parts_one hp' hp
  subst e
  obtain ⟨as, hl, pr⟩ := pa
  have al := Paired.length pr
  have lp : (ps'.length : Int) ≤ n := Rs.len_parts hp
  refine ⟨r1, rfl, ⟨_, SqL.of hl⟩, ?_⟩
  refine comp_list (K := K) (xs := as.map V.ref) (fun i ys H2 => H2 = H1 ∧ ys = ((ps'.take i).map Prod.fst).map V.int) ⟨rfl, by simp⟩ (fun i ys H2 _ z => by rw [z.1]; exact SqL.of hl)
    (fun i ys H2 hi z => by rw [List.length_map] at hi; rw [z.2]; simp only [List.length_map, List.length_take]; exact size1 (by omega)) ?_ ?_
  · rintro i x ys H2 hx ⟨rfl, rfl⟩
    obtain ⟨a, rfl, ea⟩ := ref_at hx
    obtain ⟨⟨p, z⟩, ep, ha⟩ := paired_get pr ea
    refine ⟨a, _, rfl, SqT.of ha, rfl, _, _, rfl, _, _, rfl, rfl, ?_⟩
    refine ⟨_, rfl, rfl, ?_⟩
    rw [Pt.take_snoc ep, List.map_append, List.map_append]; rfl
  rintro ys H2 ⟨rfl, rfl⟩ pm hpm
  have et : ps'.take (as.map V.ref).length = ps' := by rw [List.length_map, al, List.take_length]
  rw [et]
  have sm2 : Same H (upd H2 pm (.lst ((ps'.map Prod.fst).map V.int))) := same_new sm1 hpm
  have hpm2 : upd H2 pm (.lst ((ps'.map Prod.fst).map V.int)) pm = some (.lst ((ps'.map Prod.fst).map V.int)) := upd_same
  generalize upd H2 pm (.lst ((ps'.map Prod.fst).map V.int)) = H3 at sm2 hpm2 ⊢
  refine ⟨(by show 1 ≤ sizeLine; decide), fun l hl => ⟨_, rfl, l, _, _, rfl, rfl, upd_same, by omega, by omega, (by show 1 * _ ≤ _; exact size2 (by omega)), fun du hdu => ?_⟩⟩
  rw [rep0]
  have ldu : l ≠ du := ne_of_none upd_same hdu
  have du0 : H3 du = none := by rwa [upd_ne (Ne.symm ldu)] at hdu
  have sm0 : Same H3 (upd (upd H3 l (.lst [V.int 0])) du (.lst ((List.replicate n (0 : Int)).map V.int))) := same_upd (same_upd (Same.refl H3) hl) du0
  have hd0 : upd (upd H3 l (.lst [V.int 0])) du (.lst ((List.replicate n (0 : Int)).map V.int)) du = some (.lst ((List.replicate n (0 : Int)).map V.int)) := upd_same
  generalize upd (upd H3 l (.lst [V.int 0])) du (.lst ((List.replicate n (0 : Int)).map V.int)) = H0 at sm0 hd0 ⊢
  obtain ⟨rs, hrs, prs⟩ := tr
  have rl := Paired.length prs
  refine ⟨_, rfl, r, rfl, ⟨_, (sm2.trans sm0).seq (SqL.of (K := K) hrs)⟩, ?_⟩
  refine for_list (xs := rs.map V.ref) (fun i σ H4 => Same H3 H4 ∧ (∀ x ∈ rows.take i, x.1 ∈ ps'.map Prod.fst) ∧ ∃ (b : List Int) (o1 o2 o3 : Option V), σ = [some (.int n), some (.ref r), some (.ref pm), some (.ref du), o1, o2, o3] ∧ H4 du = some (.lst (b.map V.int)) ∧ b.length = n ∧ ∀ x, Ld.at' b x = Rg.rvs n (rows.take i) x)
    ⟨sm0, (by simp), List.replicate n 0, none, none, none, rfl, hd0, by simp, fun x => by rw [Ld.at_rep]; rfl⟩ (fun i σ H4 _ z => (sm2.trans z.1).seq (SqL.of hrs)) ?_ ?_
  · rintro i x σ H4 hx ⟨sm4, al4, b, o1, o2, o3, rfl, hb, lb, inv⟩
    obtain ⟨a, rfl, ea⟩ := ref_at hx
    obtain ⟨⟨p, hole, many⟩, ep, ha⟩ := paired_get prs ea
    have ha4 := sm4 _ _ (sm2 _ _ ha)
    refine ⟨a, _, rfl, SqT.of ha4, rfl, _, _, rfl, _, _, rfl, _, _, rfl, rfl, ?_⟩
    refine ⟨_, rfl, _, rfl, pm, _, rfl, .inl (SqL.of (sm4 _ _ hpm2)), rfl, flat_ints _, _, rfl, ?_⟩
    rw [inV_ints]
    by_cases c : p ∈ ps'.map Prod.fst
    · rw [decide_eq_true c]
      refine iteF ?_
      obtain ⟨y, hy, ey⟩ := List.mem_map.mp c
      have row := hp.row y hy
      have pd : p ∣ (n : Int) := by rw [← ey]; exact ((Pt.part_iff hp y).mp hy).2.1
      have p2 : 2 ≤ p := by rw [← ey]; exact row.pr.1
      refine ⟨_, rfl, _, rfl, _, rfl, _, rfl, du, b, n, p, hole, many, rfl, hb, lb, n1, n2, p2, pd, fun H5 b' kp hb' lb' inv' => ?_⟩
      refine ⟨fun c o h => kp c o (fun z => by rw [z, du0] at h; cases h) (sm4 c o h), fun x hx => ?_, b', _, _, _, rfl, hb', lb', fun x => ?_⟩
      · rw [Pt.take_snoc ep] at hx
        rcases List.mem_append.mp hx with z | z
        · exact al4 x z
        · rw [List.mem_singleton.mp z]; exact c
      · rw [inv', inv, Pt.take_snoc ep, Rg.rvs_snoc]
    · rw [decide_eq_false c]
      exact absurd (prm _ (List.mem_of_getElem? ep)) c
  · rintro σ H4 ⟨sm4, al4, b, o1, o2, o3, rfl, hb, lb, inv⟩
    rw [List.length_map, rl, List.take_length] at inv al4
    exact ⟨_, rfl, q du H4 b (sm2.trans sm4) (sm2.free du0) hb lb inv⟩

def PL2 (pl : List Int) : Prop := pl.length ≤ 2 ∧ ∀ p ∈ pl, 2 ≤ p ∧ p ≤ 420
theorem pl2 {pl : List Int} (h : PL2 pl) : pl = [] ∨ (∃ p, pl = [p]) ∨ ∃ p r, pl = [p, r] := by
  match pl, h.1 with
  | [], _ => exact .inl rfl
  | [p], _ => exact .inr (.inl ⟨p, rfl⟩)
  | [p, r], _ => exact .inr (.inr ⟨p, r, rfl⟩)
  | _ :: _ :: _ :: _, h => exact absurd h (by simp)
def spCan : Sp := fun vs H Q _ => ∃ (r : Addr) (pl : List Int) (many : Int), vs = [.ref r, .int many] ∧ H r = some (.lst (pl.map V.int)) ∧ PL2 pl ∧ ∀ b, (b = true ↔ Ps.Can pl many) → Q (.bl b) H
theorem ok_law_can (T : Txt K mg t_LEAD_BITS) : Df P w K mg base 1 "_law_can" ["primes", "many"] spCan := by
  refine T.d_law_can.ok sc_law_can (fun vs H Q E h => ?_) (fun f cdv A outer s H vs Q E hr h => ?_)
  · obtain ⟨_, _, _, rfl, _⟩ := h; rfl
  obtain ⟨r, pl, many, rfl, hl, pk, q⟩ := h
  have nd := sc_law_can.nd
  refine ⟨_, (pss_cons (ps_if (pt_cmpR op_lt (pv 1) pe_int (nomark _)) (pss_one (ps_ret pe_bl)) pss_nil) (pss_cons (ps_if (pt_cmpR op_eq (pe_callB call_len_seq (by rfl) T.b_len L2.bi_len (pa_cons (pv 0) pa_nil)) pe_int (nomark _)) (pss_one (ps_ret (pe_cmpR op_eq (pv 1) pe_int (nomark _)))) pss_nil) (pss_cons (ps_if (pt_cmpR op_eq (pe_callB call_len_seq (by rfl) T.b_len L2.bi_len (pa_cons (pv 0) pa_nil)) pe_int (nomark _)) (pss_one (ps_ret (pe_cmpR op_eq (pe_op op_mod (pv 1) (pe_ix ix_list (pv 0) pe_int (fun _ _ => rfl))) pe_int (nomark _)))) pss_nil) (pss_cons (ps_for PassesOwn.never rfl (pi_range1 (by rfl) T.b_range (pa_cons (pe_ix ix_list (pv 0) pe_int (fun _ _ => rfl)) pa_nil)) (pg_name (i := 2) nd rfl (Or.inl rfl)) (pss_one (ps_if (PW.pt (pw_and (pt_cmpR op_le (pe_op op_mulB (pv 2) (pe_ix ix_list (pv 0) pe_int (fun _ _ => rfl))) (pv 1) (nomark _)) (pw_and1 (pt_cmpR op_eq (pe_op op_mod (pe_op op_sub (pv 1) (pe_op op_mulB (pv 2) (pe_ix ix_list (pv 0) pe_int (fun _ _ => rfl)))) (pe_ix ix_list (pv 0) pe_int (fun _ _ => rfl))) pe_int (nomark _))))) (pss_one (ps_ret pe_bl)) pss_nil))) (pss_one (ps_ret pe_bl)))))), ?_⟩
  refine ⟨_, rfl, _, _, rfl, rfl, _, rfl, ite2 (fun c => ?_) (fun c => ?_)⟩
  · have neg := dec c
    refine q false ⟨fun z => (by cases z), fun z => ?_⟩
    exfalso
    rcases pl2 pk with e | ⟨p, e⟩ | ⟨p, r', e⟩
    · rw [e] at z; have := Ps.can0.mp z; omega
    · rw [e] at z pk
      have := (Ps.can1 (pk.2 p (by simp)).1).mp z
      omega
    · rw [e] at z pk
      have := Ps.can_pos (pk.2 p (by simp)).1 (pk.2 r' (by simp)).1 z
      omega
  have nn := ndec c
  rcases pl2 pk with e | ⟨p, e⟩ | ⟨p, r', e⟩
  · subst e
    refine ⟨_, rfl, r, _, rfl, .inl (SqL.of hl), rfl, _, rfl, iteT' rfl ?_⟩
    refine ⟨_, rfl, rfl, ?_⟩
    refine q _ ?_
    rw [Ps.can0]
    exact ⟨fun z => vint z, fun z => by rw [z]; exact decide_eq_true rfl⟩
  · subst e
    have p2 := (pk.2 p (by simp)).1
    refine ⟨_, rfl, r, _, rfl, .inl (SqL.of hl), rfl, _, rfl, iteF' (fun z => by have := vint z; simp at this) ?_⟩
    refine ⟨_, rfl, r, _, rfl, .inl (SqL.of hl), rfl, _, rfl, iteT' rfl ?_⟩
    refine ⟨_, rfl, _, rfl, r, _, _, _, rfl, rfl, SqL.of hl, (show atI ([p].map V.int) 0 = some (.int p) from rfl), _, _, rfl, rfl, (show 0 < p by omega), rfl, ?_⟩
    refine q _ ?_
    rw [Ps.can1 p2]
    exact ⟨fun z => ⟨by omega, vint z⟩, fun z => decide_eq_true (show V.int (many % p) = V.int 0 by rw [z.2])⟩
  · subst e
    have p2 := pk.2 p (by simp)
    have r2 := pk.2 r' (by simp)
    refine ⟨_, rfl, r, _, rfl, .inl (SqL.of hl), rfl, _, rfl, iteF' (fun z => by have := vint z; simp at this) ?_⟩
    refine ⟨_, rfl, r, _, rfl, .inl (SqL.of hl), rfl, _, rfl, iteF' (fun z => by have := vint z; simp at this) ?_⟩
    refine ⟨_, rfl, r, _, _, _, rfl, rfl, SqL.of hl, (show atI ([p, r'].map V.int) 1 = some (.int r') from rfl), _, rfl, by omega, by omega, ?_⟩
    refine for_range0 (fun i σ H2 => H2 = H ∧ ∃ o1 : Option V, σ = [some (.ref r), some (.int many), o1] ∧ ∀ f : Nat, f < i → ¬ ((f : Int) * p ≤ many ∧ (many - f * p) % r' = 0)) ⟨rfl, none, rfl, fun f hf => by omega⟩ ?_ ?_
    · rintro i σ H2 hi ⟨rfl, o1, rfl, no⟩
      have a0 : atI ([p, r'].map V.int) 0 = some (.int p) := rfl
      have a1 : atI ([p, r'].map V.int) 1 = some (.int r') := rfl
      refine ⟨_, rfl, _, rfl, r, _, _, _, rfl, rfl, SqL.of hl, a0, _, _, rfl, rfl, mul_small (by omega) (by omega), _, rfl, _, _, rfl, rfl, _, rfl, ite2 (fun c1 => ?_) (fun c1 => ?_)⟩
      · have le1 := dec c1
        refine ⟨_, rfl, _, rfl, _, rfl, r, _, _, _, rfl, rfl, SqL.of hl, a0, _, _, rfl, rfl, mul_small (by omega) (by omega), _, _, rfl, rfl, _, rfl, r, _, _, _, rfl, rfl, SqL.of hl, a1, _, _, rfl, rfl, (show 0 < r' by omega), rfl, _, rfl, ite2 (fun c2 => ?_) (fun c2 => ?_)⟩
        · exact q true ⟨fun _ => (Ps.can_few p2.1 r2.1).mp ⟨i, by omega, le1, vint c2⟩, fun _ => rfl⟩
        · refine ⟨rfl, _, rfl, fun f hf => ?_⟩
          rcases Nat.lt_or_ge f i with g | g
          · exact no f g
          · have : f = i := by omega
            rw [this]; exact fun z => nvint c2 z.2
      · refine ⟨rfl, _, rfl, fun f hf => ?_⟩
        rcases Nat.lt_or_ge f i with g | g
        · exact no f g
        · have : f = i := by omega
          rw [this]; exact fun z => ndec c1 z.1
    · rintro σ H2 ⟨rfl, o1, rfl, no⟩
      refine q false ⟨fun z => (by cases z), fun z => ?_⟩
      obtain ⟨f, h1, h2, h3⟩ := (Ps.can_few p2.1 r2.1).mpr z
      exact absurd ⟨h2, h3⟩ (no f (by omega))

def spNums : Sp := fun vs H Q _ => ∃ (r : Addr) (cs : List Int), vs = [.ref r, .int cs.length] ∧ H r = some (.lst (cs.map V.int)) ∧ cs.length ≤ 420 ∧ ∀ H', Same H H' → Q (.bl true) H'
theorem ok_law_numbers (T : Txt K mg t_LEAD_BITS) : Df P w K mg base 2 "_law_numbers" ["found", "many"] spNums := by
  have D_law_whole := ok_law_whole (P := P) (w := w) (base := base) T
  refine T.d_law_numbers.ok sc_law_numbers (fun vs H Q E h => ?_) (fun f cdv A outer s H vs Q E hr h => ?_)
  · obtain ⟨_, _, rfl, _⟩ := h; rfl
  obtain ⟨r, cs, rfl, hl, c10, q⟩ := h
  have nd := sc_law_numbers.nd
  refine ⟨_, (pss_cons (ps_if (PW.pt (pw_or (pt_not (pt_val (pe_callB call_isinst (by rfl) T.b_isinstance L2.bi_isinstance (pa_cons (pv 0) (pa_cons (pe_bltn (v := .ty "list") (by rfl) T.b_list L2.bi_list (by rfl)) pa_nil))))) (pw_or1 (pt_cmpR op_ne (pe_callB call_len_seq (by rfl) T.b_len L2.bi_len (pa_cons (pv 0) pa_nil)) (pv 1) (nomark _))))) (pss_one (ps_ret pe_bl)) pss_nil) (pss_one (ps_ret (pe_callB (call_allB rfl) (by rfl) T.b_all L2.bi_all (pa_cons (pe_listcomp (cap := []) (tgs := ["one"])  rfl rfl rfl (by decide +kernel) (by decide +kernel) (free_ok (by rfl)) sub_nil cap_nil (leaves_name (by decide)) (pi_list (pv 0)) (fun C s H fp => ⟨(pg_name (i := 0) (show (["one"] : List Str).Nodup by decide +kernel) rfl (Or.inl rfl) (Or.inr rfl)), pts_nil, (pe_def D_law_whole (hr.mono (by decide)) (by rfl) (pa_cons (pv 0) pa_nil))⟩)) pa_nil))))), ?_⟩
  refine ⟨_, rfl, _, _, _, true, rfl, .lst hl, kit_same _, true, rfl, iteF ?_⟩
  refine ⟨_, rfl, r, _, rfl, .inl (SqL.of hl), _, rfl, rfl, _, rfl, iteNS (by rw [List.length_map]) ?_⟩
  refine ⟨_, rfl, r, rfl, ⟨_, SqL.of hl⟩, ?_⟩
  refine comp_list (K := K) (xs := cs.map V.int) (fun i ys H2 => H2 = H ∧ ys = (List.replicate i true).map V.bl) ⟨rfl, rfl⟩ (fun i ys H2 _ z => by rw [z.1]; exact SqL.of hl)
    (fun i ys H2 hi z => by rw [List.length_map] at hi; rw [z.2, List.length_map, List.length_replicate]; exact size1 (by omega)) ?_ ?_
  · rintro i x ys H2 hx ⟨rfl, rfl⟩
    obtain ⟨u, rfl, hu⟩ := int_at hx
    refine ⟨_, rfl, u, rfl, rfl, ?_⟩
    rw [List.replicate_succ', List.map_append]; rfl
  · rintro ys H2 ⟨rfl, rfl⟩ D hD
    refine ⟨D, _, rfl, SqL.of upd_same, ?_⟩
    have e : ((List.replicate (cs.map V.int).length true).all id) = true := by rw [List.all_eq_true]; intro b hb; rw [(List.mem_replicate.mp hb).2]; rfl
    rw [e]
    exact q _ (same_new (Same.refl _) hD)

def spDrawn (K : PySem.W.Frag) : Sp := fun vs H Q _ => ∃ (c : Addr) (ms : List Int) (k : Nat), vs = [.ref c, .int k] ∧ 1 ≤ k ∧ k ≤ 24 ∧ SqL K H c (ms.map V.int) ∧ ms.length ≤ 63 ∧ ∀ t H' (ds : List Int), Same H H' → H' t = some (.lst (ds.map V.int)) → ds.length ≤ 24 → Q (.ref t) H'
theorem ok_law_drawn (T : Txt K mg t_LEAD_BITS) : Df P w K mg base 1 "_law_drawn" ["cells", "many"] (spDrawn K) := by
  refine T.d_law_drawn.ok sc_law_drawn (fun vs H Q E h => ?_) (fun f cdv A outer s H vs Q E hr h => ?_)
  · obtain ⟨_, _, _, rfl, _⟩ := h; rfl
  obtain ⟨c, ms, kk, rfl, k1, k2, hc, ml, q⟩ := h
  have nd := sc_law_drawn.nd
  have pw : CPow 10 64 := ⟨by decide, by decide, by decide⟩
  refine ⟨_, (pss_cons (ps_setcomp (cap := []) (tgs := ["k"]) (i := 2) nd rfl (Or.inl rfl) rfl rfl rfl (by decide +kernel) (by decide +kernel) (free_ok (by rfl)) sub_nil cap_nil (leaves_name (by decide)) (pi_range1 (by rfl) T.b_range (pa_cons (pv 1) pa_nil)) (fun C s H fp => ⟨(pg_name (i := 0) (show (["k"] : List Str).Nodup by decide +kernel) rfl (Or.inl rfl) (Or.inr rfl)), pts_nil, (pe_op op_mulB (pe_op op_mulB (pv 0) (pv 0)) (pv 0))⟩)) (pss_cons (ps_for PassesOwn.never rfl (pi_range1 (by rfl) T.b_range (pa_cons (pe_callB call_len_seq (by rfl) T.b_len L2.bi_len (pa_cons (pv 0) pa_nil)) pa_nil)) (pg_name (i := 3) nd rfl (Or.inl rfl)) (pss_cons (ps_set (i := 4) nd rfl (Or.inl rfl) (pe_op op_mod (pv 3) (pv 1))) (pss_one (ps_asg (pe_op op_add (pe_ix ix_list (pv 2) (pv 4) (fun _ _ => rfl)) (pe_op op_mod (pe_ix ix_list (pv 0) (pv 3) (fun _ _ => rfl)) (pe_op op_pow pe_int pe_int))) (pg_sub (pv 2) (pv 4) set_list))))) (pss_one (ps_ret (pv 2))))), ?_⟩
  refine ⟨_, rfl, _, rfl, by omega, by omega, ?_⟩
  rw [Int.toNat_natCast]
  refine comp_range0 (n := kk) (fun i ys H2 => H2 = H ∧ ∃ ds : List Int, ys = ds.map V.int ∧ ds.length = i) ⟨rfl, [], rfl, rfl⟩ (fun i ys H2 hi z => by obtain ⟨_, ds, rfl, e⟩ := z; rw [List.length_map]; exact size1 (by omega)) ?_ ?_
  · rintro i ys H2 hi ⟨rfl, ds, rfl, e⟩
    refine ⟨_, rfl, _, rfl, _, _, rfl, rfl, mul_small (by omega) (by omega), _, rfl, _, _, rfl, rfl, IntMulOk.of_right (intBits_le_64 (by omega) (by omega)), rfl, ds ++ [(i : Int) * i * i], by rw [List.map_append]; rfl, by simp [e]⟩
  rintro ys H2 ⟨rfl, ds, rfl, e⟩ du hdu
  have sm0 : Same H2 (upd H2 du (.lst (ds.map V.int))) := same_new (Same.refl _) hdu
  have hd0 : upd H2 du (.lst (ds.map V.int)) du = some (.lst (ds.map V.int)) := upd_same
  generalize upd H2 du (.lst (ds.map V.int)) = H0 at sm0 hd0 ⊢
  refine ⟨_, rfl, c, _, rfl, .inl (sm0.seq hc), _, rfl, by rw [List.length_map]; omega, by rw [List.length_map]; omega, ?_⟩
  rw [List.length_map, Int.toNat_natCast]
  refine for_range0 (fun i σ H3 => Same H2 H3 ∧ ∃ (ds : List Int) (o1 o2 : Option V), σ = [some (.ref c), some (.int kk), some (.ref du), o1, o2] ∧ H3 du = some (.lst (ds.map V.int)) ∧ ds.length = kk) ⟨sm0, ds, none, none, rfl, hd0, e⟩ ?_ ?_
  · rintro i σ H3 hi ⟨sm3, d3, o1, o2, rfl, h3, l3⟩
    have a0 := Int.emod_nonneg (i : Int) (show (kk : Int) ≠ 0 by omega)
    have a1 := Int.emod_lt_of_pos (i : Int) (show (0 : Int) < kk by omega)
    have at1 : atI (ms.map V.int) (i : Int) = some (.int (Ld.at' ms i)) := atI_k (by omega) (by omega)
    refine ⟨_, rfl, _, rfl, _, _, rfl, rfl, (show (0 : Int) < kk by omega), ?_⟩
    refine ⟨_, rfl, _, rfl, du, _, _, _, rfl, rfl, SqL.of h3, atI_k a0 (by omega), _, rfl, _, rfl, c, _, _, _, rfl, rfl, sm3.seq hc, at1, _, _, rfl, rfl, pw, _, _, rfl, rfl, (show (0 : Int) < 10 ^ (64 : Int).toNat by decide +kernel), _, _, rfl, rfl, _, rfl, _, rfl, du, _, _, _, rfl, rfl, h3, ixN_in a0 (by rw [mlen l3]; exact a1), ?_⟩
    rw [set_int]
    exact ⟨same_upd sm3 hdu, _, _, _, rfl, upd_same, by rw [List.length_set, l3]⟩
  · rintro σ H3 ⟨sm3, d3, o1, o2, rfl, h3, l3⟩
    exact ⟨_, rfl, q du H3 d3 sm3 h3 (by omega)⟩

def spMany : Sp := fun vs H Q _ => ∃ (n : Nat) (c : Int), vs = [.int n, .int c] ∧ ∀ v : Int, Q (.int v) H
theorem ok_law_many (T : Txt K mg t_LEAD_BITS) : Df P w K mg base 1 "_law_many" ["n", "cell"] spMany := by
  refine T.d_law_many.ok sc_law_many (fun vs H Q E h => ?_) (fun f cdv A outer s H vs Q E hr h => ?_)
  · obtain ⟨_, _, rfl, _⟩ := h; rfl
  obtain ⟨n, c, rfl, q⟩ := h
  have nd := sc_law_many.nd
  have pw : CPow 10 30 := ⟨by decide, by decide, by decide⟩
  refine ⟨_, (pss_cons (ps_if (pt_cmpR op_eq (pe_op op_mod (pv 1) pe_int) pe_int (nomark _)) (pss_one (ps_ret (pe_op op_sub (pe_op op_mod (pe_op op_fdivB (pv 1) pe_int) (pe_op op_add (pe_op op_mulB pe_int (pe_op op_pow pe_int pe_int)) pe_int)) (pe_op op_pow pe_int pe_int)))) pss_nil) (pss_one (ps_ret (pe_op op_sub (pe_op op_mod (pe_op op_fdivB (pv 1) pe_int) (pe_op op_add (pv 0) pe_int)) pe_int)))), ?_⟩
  refine ⟨_, rfl, _, _, rfl, rfl, (by show (0 : Int) < _; decide), rfl, _, rfl, ite2 (fun _ => ?_) (fun _ => ?_)⟩
  · exact ⟨_, rfl, _, _, rfl, rfl, div_small (by decide) (by decide), _, _, rfl, rfl, pw, _, _, rfl, rfl, mul_small (by decide) (by decide), _, _, rfl, rfl, _, _, rfl, rfl, (show (0 : Int) < 2 * 10 ^ (30 : Int).toNat + 1 by decide +kernel), _, _, rfl, rfl, pw, _, _, rfl, rfl, q _⟩
  · exact ⟨_, rfl, _, _, rfl, rfl, div_small (by decide) (by decide), _, rfl, _, _, rfl, rfl, _, _, rfl, rfl, (show (0 : Int) < (n : Int) + 3 by omega), _, _, rfl, rfl, q _⟩

def spFew : Sp := fun vs H Q _ => ∃ (n : Nat) (ps : List (Int × Int)), vs = [.int n] ∧ 1 ≤ n ∧ n ≤ 420 ∧ Pt.Parts n ps ∧ ps.length ≤ 2 ∧ ∀ t H', Same H H' → H' t = some (.lst ((ps.map Prod.fst).map V.int)) → Q (.ref t) H'
theorem ok_few_primes (T : Txt K mg t_LEAD_BITS) : Df P w K mg base 3 "few_primes" ["n"] spFew := by
  have D_parts := ok_parts (P := P) (w := w) (base := base) T
  refine T.d_few_primes.ok sc_few_primes (fun vs H Q E h => ?_) (fun f cdv A outer s H vs Q E hr h => ?_)
  · obtain ⟨_, _, rfl, _⟩ := h; rfl
  obtain ⟨n, ps, rfl, n1, n2, hp, l2, q⟩ := h
  have nd := sc_few_primes.nd
  refine ⟨_, (pss_cons (ps_setcomp (cap := []) (tgs := ["p", "q"]) (i := 1) nd rfl (Or.inl rfl) rfl rfl rfl (by decide +kernel) (by decide +kernel) (free_ok (by rfl)) sub_nil cap_nil (leaves_tup2 (by decide) (by decide)) (pi_list (pe_def D_parts (hr.mono (by decide)) (by rfl) (pa_cons (pv 0) pa_nil))) (fun C s H fp => ⟨(pg_tup rfl (pgs_cons (pg_name (i := 0) (show (["p", "q"] : List Str).Nodup by decide +kernel) rfl (Or.inl rfl) (Or.inr rfl)) (pgs_cons (pg_name (i := 1) (show (["p", "q"] : List Str).Nodup by decide +kernel) rfl (Or.inl rfl) (Or.inr rfl)) pgs_nil))), pts_nil, (pv 0)⟩)) (pss_cons (ps_if (pt_cmpR op_gt (pe_callB call_len_seq (by rfl) T.b_len L2.bi_len (pa_cons (pv 1) pa_nil)) pe_int (nomark _)) (pss_one ps_never) pss_nil) (pss_one (ps_ret (pv 1))))), ?_⟩
  refine ⟨_, rfl, _, rfl, by omega, by omega, fun r1 H1 ps1 sm1 _ pa hp1 => ?_⟩
  have epp := Pt.parts_one hp1 hp
  subst epp
  obtain ⟨as, hl, pr⟩ := pa
  have al := Paired.length pr
  refine ⟨r1, rfl, ⟨_, SqL.of hl⟩, ?_⟩
  refine comp_list (K := K) (xs := as.map V.ref) (fun i ys H2 => H2 = H1 ∧ ys = ((ps1.take i).map Prod.fst).map V.int) ⟨rfl, by simp⟩ (fun i ys H2 _ z => by rw [z.1]; exact SqL.of hl)
    (fun i ys H2 hi z => by rw [List.length_map] at hi; rw [z.2]; simp only [List.length_map, List.length_take]; exact size1 (by omega)) ?_ ?_
  · rintro i x ys H2 hx ⟨rfl, rfl⟩
    obtain ⟨a, rfl, ea⟩ := ref_at hx
    obtain ⟨⟨p, z⟩, ep, ha⟩ := paired_get pr ea
    refine ⟨a, _, rfl, SqT.of ha, rfl, _, _, rfl, _, _, rfl, rfl, ?_⟩
    refine ⟨_, rfl, rfl, ?_⟩
    rw [Pt.take_snoc ep, List.map_append, List.map_append]; rfl
  rintro ys H2 ⟨rfl, rfl⟩ D hD
  rw [List.length_map, al, List.take_length]
  have hD1 : upd H2 D (.lst ((ps1.map Prod.fst).map V.int)) D = some (.lst ((ps1.map Prod.fst).map V.int)) := upd_same
  have smD : Same H2 (upd H2 D (.lst ((ps1.map Prod.fst).map V.int))) := same_new (Same.refl _) hD
  generalize upd H2 D (.lst ((ps1.map Prod.fst).map V.int)) = H3 at hD1 smD ⊢
  refine ⟨_, rfl, D, _, rfl, .inl (SqL.of hD1), _, _, rfl, rfl, _, rfl, ite2 (fun c => absurd (dec c) (by rw [List.length_map, List.length_map]; omega)) (fun _ => ?_)⟩
  exact ⟨_, rfl, q D _ (sm1.trans smD) hD1⟩

def Rd (ps : List (Int × Int)) (cs : List Int) : Prop := ∀ x y : Int × Int, ps = [x, y] → ∀ a b : Int, cs = [a, b] → b < x.1
def spPS : Sp := fun vs H Q _ => ∃ (n : Nat) (many : Int) (ps : List (Int × Int)), vs = [.int n, .int many] ∧ 1 ≤ n ∧ n ≤ 420 ∧ Pt.Parts n ps ∧ ps.length ≤ 2 ∧
  (¬ Ps.Can (ps.map Prod.fst) many → ∀ H', Same H H' → Q .non H') ∧ (Ps.Can (ps.map Prod.fst) many → ∀ t H' cs, Same H H' → H' t = some (.lst (cs.map V.int)) → cs.length = ps.length → (∀ c ∈ cs, 0 ≤ c) → Ps.dot cs (ps.map Prod.fst) = many → Rd ps cs → Q (.ref t) H')
def spOne : Sp := fun vs H Q _ => ∃ (r : Addr) (pl : List Int) (many : Int), vs = [.ref r, .int many] ∧ H r = some (.lst (pl.map V.int)) ∧ PL2 pl ∧ pl.length < 2 ∧
  (¬ Ps.Can pl many → ∀ H', Same H H' → Q .non H') ∧ (Ps.Can pl many → ∀ t H' cs, Same H H' → H' t = some (.lst (cs.map V.int)) → cs.length = pl.length → (∀ c ∈ cs, 0 ≤ c) → Ps.dot cs pl = many → Q (.ref t) H')
theorem ok_one_prime_sum (T : Txt K mg t_LEAD_BITS) : Df P w K mg base 1 "one_prime_sum" ["primes", "many"] spOne := by
  refine T.d_one_prime_sum.ok sc_one_prime_sum (fun vs H Q E h => ?_) (fun f cdv A outer s H vs Q E hr h => ?_)
  · obtain ⟨_, _, _, rfl, _⟩ := h; rfl
  obtain ⟨r, pl, many, rfl, hl, pk, l2, qn, qc⟩ := h
  have nd := sc_one_prime_sum.nd
  refine ⟨_, (pss_cons (ps_if (pt_cmpR op_eq (pv 1) pe_int (nomark _)) (pss_one (ps_ret (pe_listcomp (cap := []) (tgs := ["p"])  rfl rfl rfl (by decide +kernel) (by decide +kernel) (free_ok (by rfl)) sub_nil cap_nil (leaves_name (by decide)) (pi_list (pv 0)) (fun C s H fp => ⟨(pg_name (i := 0) (show (["p"] : List Str).Nodup by decide +kernel) rfl (Or.inl rfl) (Or.inr rfl)), pts_nil, pe_int⟩)))) pss_nil) (pss_cons (ps_if (PW.pt (pw_or (pt_cmpR (op_eqD (hu64 hr)) (pv 0) (pe_lst pa_nil) (nomark _)) (pw_or (pt_cmpR op_lt (pv 1) pe_int (nomark _)) (pw_or1 (pt_cmpR op_ne (pe_op op_mod (pv 1) (pe_ix ix_list (pv 0) pe_int (fun _ _ => rfl))) pe_int (nomark _)))))) (pss_one (ps_ret pe_non)) pss_nil) (pss_one (ps_ret (pe_lst (pa_cons (pe_op op_fdivB (pv 1) (pe_ix ix_list (pv 0) pe_int (fun _ _ => rfl))) pa_nil)))))), ?_⟩
  refine ⟨_, rfl, rfl, _, rfl, ite2 (fun c => ?_) (fun c => ?_)⟩
  · have m0 := vint c
    refine ⟨_, rfl, r, rfl, ⟨_, SqL.of hl⟩, ?_⟩
    refine comp_list (K := K) (xs := pl.map V.int) (fun i ys H2 => H2 = H ∧ ys = (List.replicate i (0 : Int)).map V.int) ⟨rfl, rfl⟩ (fun i ys H2 _ z => by rw [z.1]; exact SqL.of hl)
      (fun i ys H2 hi z => by rw [List.length_map] at hi; rw [z.2, List.length_map, List.length_replicate]; exact size1 (by omega)) ?_ ?_
    · rintro i x ys H2 hx ⟨rfl, rfl⟩
      obtain ⟨u, rfl, hu⟩ := int_at hx
      refine ⟨rfl, ?_⟩
      rw [List.replicate_succ', List.map_append]; rfl
    · rintro ys H2 ⟨rfl, rfl⟩ D hD
      have z0 : ∀ l : List Int, Ps.dot (List.replicate l.length 0) l = 0 := by
        intro l
        induction l with
        | nil => rfl
        | cons a t ih => show 0 * a + Ps.dot (List.replicate t.length 0) t = 0; rw [ih, Int.zero_mul]; rfl
      rw [List.length_map]
      have cn : Ps.Can pl many := ⟨List.replicate pl.length 0, by simp, fun c hc => by rw [(List.mem_replicate.mp hc).2]; exact Int.le_refl _, by rw [m0]; exact z0 pl⟩
      exact qc cn D _ (List.replicate pl.length 0) (same_new (Same.refl _) hD) upd_same (by simp) (fun c hc => by rw [(List.mem_replicate.mp hc).2]; exact Int.le_refl _) (by rw [m0]; exact z0 pl)
  have nz := nvint c
  have e0 : ∀ {Q' : VK}, (∀ e1, H e1 = none → Q' (.bl (decide (pl = []))) (upd H e1 (.lst []))) → ∀ e1, H e1 = none → rEqD K (.ref r) (.ref e1) (upd H e1 (.lst [])) Q' := fun h e1 he1 => eqL_of (ns := pl) (ms := []) (SqL.of ((upd_ne (ne_of_none hl he1)).trans hl)) (SqL.of upd_same) (h e1 he1)
  refine ⟨_, rfl, Nat.zero_le _, e0 fun e1 he1 => ⟨_, rfl, ?_⟩⟩
  have sm1 : Same H (upd H e1 (.lst [])) := same_new (Same.refl _) he1
  have hl1 := sm1 _ _ hl
  generalize upd H e1 (.lst []) = H1 at sm1 hl1 ⊢
  rcases pl2 pk with e | ⟨p, e⟩ | ⟨p, r', e⟩
  · subst e
    refine iteT' (decide_eq_true rfl) ?_
    exact qn (fun z => nz (Ps.can0.mp z)) _ sm1
  · subst e
    have p2 := pk.2 p (by simp)
    refine iteF' (by simp) ?_
    refine ⟨_, rfl, _, _, rfl, rfl, _, rfl, ite2 (fun c1 => ?_) (fun c1 => ?_)⟩
    · exact qn (fun z => by have := ((Ps.can1 p2.1).mp z).1; have := dec c1; omega) _ sm1
    have m0 := ndec c1
    have a0 : atI ([p].map V.int) 0 = some (.int p) := rfl
    refine ⟨_, rfl, _, rfl, r, _, _, _, rfl, rfl, SqL.of hl1, a0, _, _, rfl, rfl, (show 0 < p by omega), rfl, _, rfl, ite2 (fun c2 => ?_) (fun c2 => ?_)⟩
    · exact qn (fun z => vne c2 ((Ps.can1 p2.1).mp z).2) _ sm1
    · have d0 := nvne c2
      refine ⟨_, rfl, _, rfl, r, _, _, _, rfl, rfl, SqL.of hl1, a0, _, _, rfl, rfl, div_small (by omega) (by omega), (by show 1 ≤ sizeLine; decide), fun t ht => ?_⟩
      exact qc ((Ps.can1 p2.1).mpr ⟨by omega, d0⟩) t _ [many / p] (same_new sm1 ht) upd_same rfl (fun c hc => by rw [List.mem_singleton.mp hc]; exact Int.ediv_nonneg (by omega) (by omega)) (by
        show many / p * p + 0 = many
        rw [Int.add_zero]; exact Int.ediv_mul_cancel (Int.dvd_of_emod_eq_zero d0))
  · subst e; exact absurd l2 (by simp)
theorem ok_prime_sum (T : Txt K mg t_LEAD_BITS) : Df P w K mg base 4 "prime_sum" ["n", "many"] spPS := by
  have D_few_primes := ok_few_primes (P := P) (w := w) (base := base) T
  have D_one_prime_sum := ok_one_prime_sum (P := P) (w := w) (base := base) T
  have D_back := ok_back (P := P) (w := w) (base := base) T
  refine T.d_prime_sum.ok sc_prime_sum (fun vs H Q E h => ?_) (fun f cdv A outer s H vs Q E hr h => ?_)
  · obtain ⟨_, _, _, rfl, _⟩ := h; rfl
  obtain ⟨n, many, ps, rfl, n1, n2, hp, l2, qn, qc⟩ := h
  have nd := sc_prime_sum.nd
  have pk : PL2 (ps.map Prod.fst) := ⟨by rw [List.length_map]; exact l2, fun p hp' => by
    obtain ⟨x, hx, ex⟩ := List.mem_map.mp hp'
    have a := Pt.row_le (hp.row _ hx)
    have b := Pt.le_Prd ps hp.row _ hx
    rw [hp.prd] at b
    rw [← ex]; omega⟩
  refine ⟨_, (pss_cons (ps_set (i := 2) nd rfl (Or.inl rfl) (pe_def D_few_primes (hr.mono (by decide)) (by rfl) (pa_cons (pv 0) pa_nil))) (pss_cons (ps_if (pt_cmpR op_lt (pe_callB call_len_seq (by rfl) T.b_len L2.bi_len (pa_cons (pv 2) pa_nil)) pe_int (nomark _)) (pss_one (ps_ret (pe_def D_one_prime_sum (hr.mono (by decide)) (by rfl) (pa_cons (pv 2) (pa_cons (pv 1) pa_nil))))) pss_nil) (pss_cons (ps_set (i := 3) nd rfl (Or.inl rfl) (pe_ix ix_list (pv 2) pe_int (fun _ _ => rfl))) (pss_cons (ps_set (i := 4) nd rfl (Or.inl rfl) (pe_ix ix_list (pv 2) pe_int (fun _ _ => rfl))) (pss_cons (ps_set (i := 5) nd rfl (Or.inl rfl) (pe_op op_mod (pe_op op_mulB (pv 1) (pe_def D_back (hr.mono (by decide)) (by rfl) (pa_cons (pv 4) (pa_cons (pv 3) pa_nil)))) (pv 3))) (pss_cons (ps_set (i := 6) nd rfl (Or.inl rfl) (pe_op op_sub (pv 1) (pe_op op_mulB (pv 5) (pv 4)))) (pss_cons (ps_if (pt_cmpR op_lt (pv 6) pe_int (nomark _)) (pss_one (ps_ret pe_non)) pss_nil) (pss_one (ps_ret (pe_lst (pa_cons (pe_op op_fdivB (pv 6) (pv 3)) (pa_cons (pv 5) pa_nil)))))))))))), ?_⟩
  refine ⟨_, rfl, n, ps, rfl, n1, n2, hp, l2, fun r H1 sm1 h1 => ?_⟩
  have ml : ((ps.map Prod.fst).map V.int).length = ps.length := by rw [List.length_map, List.length_map]
  refine ⟨_, rfl, r, _, rfl, .inl (SqL.of h1), _, _, rfl, rfl, _, rfl, ite2 (fun c => ?_) (fun c => ?_)⟩
  · have lt := dec c
    rw [ml] at lt
    refine ⟨_, rfl, _, rfl, r, ps.map Prod.fst, many, rfl, h1, pk, by rw [List.length_map]; omega, fun nc H2 sm2 => qn nc _ (sm1.trans sm2), fun cn t H2 cs sm2 h2 lc c0 dt => qc cn t H2 cs (sm1.trans sm2) h2 (by rw [lc, List.length_map]) c0 dt (fun x y e _ _ _ => by rw [e] at lt; exact absurd lt (by simp))⟩
  have len2 : ps.length = 2 := by have := ndec c; rw [ml] at this; omega
  match ps, len2 with
  | [x, y], _ =>
    have px := pk.2 x.1 (by simp)
    have py := pk.2 y.1 (by simp)
    have lt : x.1 < y.1 := (List.pairwise_cons.mp hp.srt).1 y (by simp)
    have a0 : atI (([x, y].map Prod.fst).map V.int) 0 = some (.int x.1) := rfl
    have a1 : atI (([x, y].map Prod.fst).map V.int) 1 = some (.int y.1) := rfl
    have g1 := Ps.G_pr (hp.row x (by simp)).pr (hp.row y (by simp)).pr (by omega)
    refine ⟨_, rfl, r, _, _, _, rfl, rfl, SqL.of h1, a0, ?_⟩
    refine ⟨_, rfl, r, _, _, _, rfl, rfl, SqL.of h1, a1, ?_⟩
    refine ⟨_, rfl, _, rfl, _, rfl, y.1, x.1, rfl, by omega, by omega, g1, fun u H2 u1 u2 hu sm2 => ?_⟩
    have cl := Ps.can_left (many := many) px.1 py.1 hu
    have c0 := Int.emod_nonneg (many * u) (show x.1 ≠ 0 by omega)
    have c1 := Int.emod_lt_of_pos (many * u) (show 0 < x.1 by omega)
    refine ⟨_, _, rfl, rfl, IntMulOk.of_right (intBits_le_64 (by omega) (by omega)), _, rfl, _, _, rfl, rfl, (show 0 < x.1 by omega), ?_⟩
    refine ⟨_, rfl, _, rfl, _, rfl, _, _, rfl, rfl, mul_small (by omega) (by omega), _, _, rfl, rfl, ?_⟩
    refine ⟨_, rfl, _, _, rfl, rfl, _, rfl, ite2 (fun c2 => ?_) (fun c2 => ?_)⟩
    · exact qn (fun z => by have := cl.2.mpr z; have := dec c2; omega) _ (sm1.trans sm2)
    · have l0 := ndec c2
      refine ⟨_, rfl, _, rfl, _, _, rfl, rfl, div_small (by omega) (by omega), _, rfl, (by show 2 ≤ sizeLine; decide), fun t ht => ?_⟩
      refine qc (cl.2.mp (by omega)) t _ [(many - many * u % x.1 * y.1) / x.1, many * u % x.1] (same_new (sm1.trans sm2) ht) upd_same rfl (fun c hc => ?_) ?_ (fun x' y' e a b e2 => by cases e; cases e2; exact c1)
      · rcases List.mem_cons.mp hc with w | w
        · rw [w]; exact Int.ediv_nonneg (by omega) (by omega)
        · rw [List.mem_singleton.mp w]; exact c0
      · show (many - many * u % x.1 * y.1) / x.1 * x.1 + (many * u % x.1 * y.1 + 0) = many
        rw [Int.ediv_mul_cancel (Int.dvd_of_emod_eq_zero cl.1)]; omega

def spCL : Sp := fun vs H Q _ => ∃ (n m : Nat) (p q : Int), vs = [.int n, .int p, .int q] ∧ 1 ≤ n ∧ n ≤ 420 ∧ Sk.Two n p q m ∧ (n : Int) / (p * q) = m ∧ ∀ t H', Same H H' → H' t = some (.lst (((List.range (m * q.toNat)).map (Se.F q.toNat (p * m))).map V.int)) → Q (.ref t) H'
theorem rg3_map (lo st : Int) (k : Nat) : rg3 lo st k = (List.range k).map fun (i : Nat) => lo + (i : Int) * st := rfl
theorem two_bounds {n m : Nat} {p q : Int} (n2 : n ≤ 420) (T2 : Sk.Two n p q m) : p * q ≤ n ∧ (m : Int) * q ≤ n ∧ (m : Int) * p ≤ n ∧ p ≤ n ∧ q ≤ n ∧ (m : Int) ≤ n ∧ p * q * 1 ≤ n ∧ 0 < p * q := by
  have p2 := T2.p2
  have q2 := T2.q2
  have m0 := T2.m0
  have e := T2.e
  have a1 : 0 < p * q := Int.mul_pos (by omega) (by omega)
  have a2 : 0 < q * m := Int.mul_pos (by omega) (by omega)
  have a3 : 0 < p * m := Int.mul_pos (by omega) (by omega)
  have b1 := Int.mul_le_mul_of_nonneg_left (show (1 : Int) ≤ m by omega) (show 0 ≤ p * q by omega)
  have b2 := Int.mul_le_mul_of_nonneg_left (show (1 : Int) ≤ p by omega) (show 0 ≤ q * m by omega)
  have b3 := Int.mul_le_mul_of_nonneg_left (show (1 : Int) ≤ q by omega) (show 0 ≤ p * m by omega)
  have b4 := Int.mul_le_mul_of_nonneg_left (show (1 : Int) ≤ q by omega) (show 0 ≤ p by omega)
  have b5 := Int.mul_le_mul_of_nonneg_left (show (1 : Int) ≤ p by omega) (show 0 ≤ q by omega)
  have b6 := Int.mul_le_mul_of_nonneg_left (show (1 : Int) ≤ p by omega) (show (0 : Int) ≤ m by omega)
  have e2 : (n : Int) = q * m * p := by rw [e]; grind
  have e3 : (n : Int) = p * m * q := by rw [e]; grind
  have e4 : q * p = p * q := Int.mul_comm _ _
  have e5 : (m : Int) * q = q * m := Int.mul_comm _ _
  have e6 : (m : Int) * p = p * m := Int.mul_comm _ _
  refine ⟨?_, ?_, ?_, ?_, ?_, ?_, ?_, a1⟩ <;> omega
theorem ok_crossing_last (T : Txt K mg t_LEAD_BITS) : Df P w K mg base 2 "crossing_last" ["n", "small", "great"] spCL := by
  have D_ring_holes := ok_ring_holes (P := P) (w := w) (base := base) T
  refine T.d_crossing_last.ok sc_crossing_last (fun vs H Q E h => ?_) (fun f cdv A outer s H vs Q E hr h => ?_)
  · obtain ⟨_, _, _, _, rfl, _⟩ := h; rfl
  obtain ⟨n, m, p, q, rfl, n1, n2, T2, em, qq⟩ := h
  have nd := sc_crossing_last.nd
  have p2 := T2.p2
  have q2 := T2.q2
  have m0 := T2.m0
  obtain ⟨b1, b2, b3, b4, b5, b6, _, b8⟩ := two_bounds n2 T2
  have dq : q ∣ (n : Int) := ⟨p * m, by rw [T2.e, Int.mul_comm p q, Int.mul_assoc]⟩
  obtain ⟨tt, ett, tt0, enq, qle⟩ := Rg.step_of n1 q2 dq
  have et : (tt : Int) = p * m := ett.symm.trans T2.t
  have mt : (m : Int) < tt := by
    have := Int.mul_le_mul_of_nonneg_right (show 2 ≤ p by omega) (show (0 : Int) ≤ m by omega)
    omega
  refine ⟨_, (pss_cons (ps_set (i := 3) nd rfl (Or.inl rfl) (pe_lst pa_nil)) (pss_cons (ps_for PassesOwn.never rfl (pi_range2 (by rfl) T.b_range (pa_cons pe_int (pa_cons (pe_op op_add (pe_op op_fdivB (pv 0) (pe_op op_mulB (pv 1) (pv 2))) pe_int) pa_nil))) (pg_name (i := 4) nd rfl (Or.inl rfl)) (pss_one (ps_expr (pe_bm PySem.F.plainAttrs_list PySem.F.slot_list_extend PySem.F.type_list_extend mt_extend (pv 3) (pa_cons (pe_def D_ring_holes (hr.mono (by decide)) (by rfl) (pa_cons (pv 0) (pa_cons (pv 2) (pa_cons (pv 4) pa_nil)))) pa_nil))))) (pss_one (ps_ret (pv 3))))), ?_⟩
  refine ⟨Nat.zero_le _, fun ho hho => ?_⟩
  have sm0 : Same H (upd H ho (.lst [])) := same_new (Same.refl _) hho
  have hh0 : upd H ho (.lst []) ho = some (.lst []) := upd_same
  generalize upd H ho (.lst []) = H0 at sm0 hh0 ⊢
  refine ⟨_, rfl, _, rfl, _, rfl, _, _, rfl, rfl, mul_small (by omega) (by omega), _, _, rfl, rfl, div_small (by omega) (by omega), _, _, rfl, rfl, 1, (m : Int) + 1, ?_, ⟨by omega, by omega, by omega, by omega⟩, ?_⟩
  · show [V.int 1, V.int ((n : Int) / (p * q) + 1)] = _
    rw [em]
  rw [show ((m : Int) + 1 - 1).toNat = m by omega]
  refine for_range (lo := 1) (n := m) (fun i σ H2 => Same H H2 ∧ ∃ o1 : Option V, σ = [some (.int n), some (.int p), some (.int q), some (.ref ho), o1] ∧ H2 ho = some (.lst (((List.range (i * q.toNat)).map (Se.F q.toNat (p * m))).map V.int)))
    ⟨sm0, none, rfl, by rw [Nat.zero_mul]; exact hh0⟩ ?_ ?_
  · rintro i σ H2 hi ⟨sm2, o1, rfl, h2⟩
    have e1 : (1 + (i : Int)) % (tt : Int) = (i : Int) + 1 := by rw [Int.add_comm]; exact Int.emod_eq_of_lt (by omega) (by omega)
    refine ⟨_, rfl, .inl ⟨rfl, _, SqL.of h2⟩, _, rfl, _, rfl, _, rfl, n, q, 1 + (i : Int), tt, rfl, n1, n2, q2, qle, ett, tt0, enq, fun t ht => ?_⟩
    rw [e1]
    have nt : ho ≠ t := ne_of_none h2 ht
    refine ⟨ho, t, _, _, rfl, rfl, (upd_ne nt).trans h2, upd_same, ?_, ?_⟩
    · have l1 : (i : Int) * q.toNat ≤ m * q := by
        rw [Int.toNat_of_nonneg (by omega)]; exact Int.mul_le_mul_of_nonneg_right (by omega) (by omega)
      have l2 : ((i * q.toNat : Nat) : Int) = i * q.toNat := Int.natCast_mul _ _
      rw [rg3_map, List.length_map, List.length_map, List.length_map, List.length_map, List.length_range, List.length_range]
      exact size2 (by omega)
    · refine ⟨fun d o h => (upd_ne (fun z => by rw [z, hho] at h; cases h)).trans ((same_new sm2 ht) d o h), _, rfl, ?_⟩
      rw [upd_same, ← List.map_append, rg3_map, et, ← Se.cl_snoc (by omega)]
  · rintro σ H2 ⟨sm2, o1, rfl, h2⟩
    exact ⟨_, rfl, qq ho H2 sm2 h2⟩

def Starts (n : Nat) : List Int → List (List Int)
  | [] => []
  | [p] => [(List.range ((n : Int) / p).toNat).map fun (i : Nat) => (i : Int)]
  | p :: q :: _ => [(List.range (((n : Int) / (p * q)).toNat * q.toNat)).map (Se.F q.toNat (p * ((n : Int) / (p * q)).toNat)), (List.range p.toNat).map fun (k : Nat) => (k : Int) * (q * ((n : Int) / (p * q)).toNat)]
def spStarts : Sp := fun vs H Q _ => ∃ (n : Nat) (ps : List (Int × Int)), vs = [.int n] ∧ 1 ≤ n ∧ n ≤ 420 ∧ n ≠ 1 ∧ Pt.Parts n ps ∧ ps.length ≤ 2 ∧ ∀ t H' (as : List Addr), Same H H' → H' t = some (.lst (as.map V.ref)) → Paired (fun a (l : List Int) => H' a = some (.lst (l.map V.int))) as (Starts n (ps.map Prod.fst)) → Q (.ref t) H'
theorem ok_ring_starts (T : Txt K mg t_LEAD_BITS) : Df P w K mg base 4 "ring_starts" ["n"] spStarts := by
  have D_few_primes := ok_few_primes (P := P) (w := w) (base := base) T
  have D_crossing_last := ok_crossing_last (P := P) (w := w) (base := base) T
  have D_ring_holes := ok_ring_holes (P := P) (w := w) (base := base) T
  refine T.d_ring_starts.ok sc_ring_starts (fun vs H Q E h => ?_) (fun f cdv A outer s H vs Q E hr h => ?_)
  · obtain ⟨_, _, rfl, _⟩ := h; rfl
  obtain ⟨n, ps, rfl, n1, n2, nn1, hp, l2, q⟩ := h
  have nd := sc_ring_starts.nd
  have ne := Sk.parts_ne hp nn1
  have rng : ∀ y ∈ ps, 2 ≤ y.1 ∧ y.1 ≤ n ∧ y.1 ∣ (n : Int) := fun y hy => by
    have pd : y.1 ∣ (n : Int) := ((Pt.part_iff hp y).mp hy).2.1
    exact ⟨(hp.row y hy).pr.1, Int.le_of_dvd (by omega) pd, pd⟩
  refine ⟨_, (pss_cons (ps_set (i := 1) nd rfl (Or.inl rfl) (pe_def D_few_primes (hr.mono (by decide)) (by rfl) (pa_cons (pv 0) pa_nil))) (pss_cons (ps_if (pt_cmpR op_eq (pe_callB call_len_seq (by rfl) T.b_len L2.bi_len (pa_cons (pv 1) pa_nil)) pe_int (nomark _)) (pss_one (ps_ret (pe_lst (pa_cons (pe_lrng1 rfl (by rfl) T.b_list (by rfl) T.b_range (pa_cons (pe_op op_fdivB (pv 0) (pe_ix ix_list (pv 1) pe_int (fun _ _ => rfl))) pa_nil)) pa_nil)))) pss_nil) (pss_one (ps_ret (pe_lst (pa_cons (pe_def D_crossing_last (hr.mono (by decide)) (by rfl) (pa_cons (pv 0) (pa_cons (pe_ix ix_list (pv 1) pe_int (fun _ _ => rfl)) (pa_cons (pe_ix ix_list (pv 1) pe_int (fun _ _ => rfl)) pa_nil)))) (pa_cons (pe_def D_ring_holes (hr.mono (by decide)) (by rfl) (pa_cons (pv 0) (pa_cons (pe_ix ix_list (pv 1) pe_int (fun _ _ => rfl)) (pa_cons pe_int pa_nil)))) pa_nil))))))), ?_⟩
  refine ⟨_, rfl, n, ps, rfl, n1, n2, hp, l2, fun r H1 sm1 h1 => ?_⟩
  match ps, l2, hp, rng, ne, h1, q with
  | [], _, hp, rng, ne, h1, q => exact absurd rfl ne
  | [x], _, hp, rng, ne, h1, q =>
    obtain ⟨p2, pn, pd⟩ := rng x (by simp)
    have d0 : (0 : Int) ≤ (n : Int) / x.1 := Int.ediv_nonneg (by omega) (by omega)
    have d1 : (n : Int) / x.1 ≤ n := Int.ediv_le_self _ (by omega)
    have a0 : atI (([x].map Prod.fst).map V.int) 0 = some (.int x.1) := rfl
    refine ⟨_, rfl, r, _, rfl, .inl (SqL.of h1), rfl, _, rfl, iteT' (decide_eq_true rfl) ?_⟩
    refine ⟨_, rfl, _, rfl, r, _, _, _, rfl, rfl, SqL.of h1, a0, _, _, rfl, rfl, div_small (by omega) (by omega), ((n : Int) / x.1).toNat, ?_, by omega, fun l hl => ⟨(by show 1 ≤ sizeLine; decide), fun t ht => ?_⟩⟩
    · show [V.int ((n : Int) / x.1)] = _
      rw [Int.toNat_of_nonneg d0]
    · exact q t _ [l] (same_new (same_new sm1 hl) ht) upd_same (.cons ((upd_ne (fun z => by rw [← z, upd_same] at ht; cases ht)).trans upd_same) .nil)
  | [x, y], _, hp, rng, ne, h1, q =>
    obtain ⟨p2, pn, pd⟩ := rng x (by simp)
    obtain ⟨q2, qn, qd⟩ := rng y (by simp)
    obtain ⟨m, T2, em⟩ := Sk.two_of n1 hp rfl
    have a0 : atI (([x, y].map Prod.fst).map V.int) 0 = some (.int x.1) := rfl
    have a1 : atI (([x, y].map Prod.fst).map V.int) 1 = some (.int y.1) := rfl
    obtain ⟨st, est, st0, enp, ple⟩ := Rg.step_of n1 p2 pd
    have es : (st : Int) = y.1 * m := est.symm.trans T2.s
    refine ⟨_, rfl, r, _, rfl, .inl (SqL.of h1), rfl, _, rfl, iteF' (by simp) ?_⟩
    refine ⟨_, rfl, _, rfl, r, _, _, _, rfl, rfl, SqL.of h1, a0, _, rfl, r, _, _, _, rfl, rfl, SqL.of h1, a1, n, m, x.1, y.1, rfl, n1, n2, T2, em, fun l1 H2 sm2 h2 => ?_⟩
    have h12 := sm2 _ _ h1
    refine ⟨_, rfl, _, rfl, r, _, _, _, rfl, rfl, SqL.of h12, a0, n, x.1, 0, st, rfl, n1, n2, p2, ple, est, st0, enp, fun l2' hl2 => ⟨(by show 2 ≤ sizeLine; decide), fun t ht => ?_⟩⟩
    have sm3 : ∀ o, Same H2 (upd (upd H2 l2' (.lst ((rg3 (0 % (st : Int)) st x.1.toNat).map V.int))) t o) := fun o => same_new (same_new (Same.refl H2) hl2) ht
    have k2 : ∀ o, upd (upd H2 l2' (.lst ((rg3 (0 % (st : Int)) st x.1.toNat).map V.int))) t o l2' = some (.lst ((rg3 (0 % (st : Int)) st x.1.toNat).map V.int)) := fun o => (upd_ne (fun z => by rw [← z, upd_same] at ht; cases ht)).trans upd_same
    refine q t _ [l1, l2'] ((sm1.trans sm2).trans (sm3 _)) upd_same (.cons ?_ (.cons ?_ .nil))
    · rw [sm3 _ _ _ h2]
      show _ = some (HO.lst (((List.range (((n : Int) / (x.1 * y.1)).toNat * y.1.toNat)).map (Se.F y.1.toNat (x.1 * (((n : Int) / (x.1 * y.1)).toNat : Nat)))).map V.int))
      rw [em, Int.toNat_natCast]
    · rw [k2]
      show _ = some (HO.lst (((List.range x.1.toNat).map fun (k : Nat) => (k : Int) * (y.1 * (((n : Int) / (x.1 * y.1)).toNat : Nat))).map V.int))
      rw [em, Int.toNat_natCast, rg3_map, Int.zero_emod, es]
      have e : ((List.range x.1.toNat).map fun (i : Nat) => 0 + (i : Int) * (y.1 * m)) = (List.range x.1.toNat).map fun (k : Nat) => (k : Int) * (y.1 * m) := List.map_congr_left fun k _ => Int.zero_add _
      rw [e]

theorem cut_toA (xs : List V) (k : Nat) : cutV xs none (some (k : Int)) = xs.take k := by
  unfold cutV
  rw [HT.sIx_nat, HT.sIx_none, List.drop_zero, Nat.sub_zero]
  rcases Nat.le_total k xs.length with h | h
  · rw [Nat.min_eq_left h]
  · rw [Nat.min_eq_right h, List.take_length, List.take_of_length_le h]
def Due (n : Nat) (pl : List Int) (many : Int) : Prop := (n = 1 ∧ many = 0) ∨ (n ≠ 1 ∧ Ps.Can pl many ∧ Ps.Can pl ((n : Int) - many))
def grp (pl cs : List Int) (ls : List (List Int)) (j : Nat) : List (Int × Int × Int) := ((ls.getD j []).take (cs.getD j 0).toNat).map fun h => (pl.getD j 0, h, (1 : Int))
def grps (pl cs : List Int) (ls : List (List Int)) (i : Nat) : List (Int × Int × Int) := (List.range i).flatMap (grp pl cs ls)
theorem grps_succ (pl cs : List Int) (ls : List (List Int)) (i : Nat) : grps pl cs ls (i + 1) = grps pl cs ls i ++ grp pl cs ls i := by
  unfold grps; rw [List.range_succ, List.flatMap_append]; simp
theorem getD_of {α : Type} {l : List α} {i : Nat} {x d : α} (h : l[i]? = some x) : l.getD i d = x := by rw [List.getD, h]; rfl
theorem starts_len {n : Nat} {ps : List (Int × Int)} (n1 : 1 ≤ n) (n2 : n ≤ 420) (nn1 : n ≠ 1) (hp : Pt.Parts n ps) (l2 : ps.length ≤ 2) : (Starts n (ps.map Prod.fst)).length = ps.length ∧ ∀ l ∈ Starts n (ps.map Prod.fst), l.length ≤ 420 := by
  have rng : ∀ y ∈ ps, 2 ≤ y.1 ∧ y.1 ≤ n ∧ y.1 ∣ (n : Int) := fun y hy => by
    have pd : y.1 ∣ (n : Int) := ((Pt.part_iff hp y).mp hy).2.1
    exact ⟨(hp.row y hy).pr.1, Int.le_of_dvd (by omega) pd, pd⟩
  match ps, l2, hp, rng with
  | [], _, _, _ => exact ⟨rfl, fun l hl => (nomatch hl)⟩
  | [x], _, hp, rng =>
    refine ⟨rfl, fun l hl => ?_⟩
    have d1 : (n : Int) / x.1 ≤ n := Int.ediv_le_self _ (by omega)
    rw [List.mem_singleton.mp hl, List.length_map, List.length_range]
    omega
  | [x, y], _, hp, rng =>
    refine ⟨rfl, fun l hl => ?_⟩
    obtain ⟨m, T2, em⟩ := Sk.two_of n1 hp rfl
    obtain ⟨b1, b2, b3, b4, b5, b6, _, b8⟩ := two_bounds n2 T2
    have q2 := T2.q2
    rcases List.mem_cons.mp hl with z | z
    · rw [z, List.length_map, List.length_range]
      show ((n : Int) / (x.1 * y.1)).toNat * y.1.toNat ≤ 420
      rw [em, Int.toNat_natCast]
      have : ((m * y.1.toNat : Nat) : Int) = m * y.1 := by rw [Int.natCast_mul, Int.toNat_of_nonneg (by omega)]
      omega
    · rw [List.mem_singleton.mp z, List.length_map, List.length_range]
      have := b4
      omega
theorem starts_ne {n : Nat} {ps : List (Int × Int)} (n1 : 1 ≤ n) (nn1 : n ≠ 1) (hp : Pt.Parts n ps) (l2 : ps.length ≤ 2) : 0 < ps.length ∧ ∀ l ∈ Starts n (ps.map Prod.fst), l ≠ [] := by
  have ne := Sk.parts_ne hp nn1
  have rng : ∀ y ∈ ps, 2 ≤ y.1 ∧ y.1 ≤ n ∧ y.1 ∣ (n : Int) := fun y hy => by
    have pd : y.1 ∣ (n : Int) := ((Pt.part_iff hp y).mp hy).2.1
    exact ⟨(hp.row y hy).pr.1, Int.le_of_dvd (by omega) pd, pd⟩
  have mne : ∀ (k : Nat) (f : Nat → Int), 0 < k → (List.range k).map f ≠ [] := fun k f hk z => by have := congrArg List.length z; rw [List.length_map, List.length_range] at this; simp at this; omega
  match ps, l2, hp, rng, ne with
  | [], _, _, _, ne => exact absurd rfl ne
  | [x], _, hp, rng, _ =>
    obtain ⟨p2, pn, pd⟩ := rng x (by simp)
    refine ⟨by simp, fun l hl => ?_⟩
    obtain ⟨st, est, st0, _, _⟩ := Rg.step_of n1 p2 pd
    rw [List.mem_singleton.mp hl]
    exact mne _ _ (by show 0 < ((n : Int) / x.1).toNat; rw [est]; omega)
  | [x, y], _, hp, rng, _ =>
    refine ⟨by simp, fun l hl => ?_⟩
    obtain ⟨m, T2, em⟩ := Sk.two_of n1 hp rfl
    have p2 := T2.p2
    have q2 := T2.q2
    rcases List.mem_cons.mp hl with z | z
    · rw [z]
      refine mne _ _ ?_
      show 0 < ((n : Int) / (x.1 * y.1)).toNat * y.1.toNat
      rw [em, Int.toNat_natCast]
      exact Nat.mul_pos T2.m0 (by omega)
    · rw [List.mem_singleton.mp z]
      exact mne _ _ (by omega)
theorem take_range_map {α : Type} (f : Nat → α) {a k : Nat} (h : a ≤ k) : ((List.range k).map f).take a = (List.range a).map f := by
  rw [← List.map_take, List.take_range, Nat.min_eq_left h]
theorem set_rows {n : Nat} {ps : List (Int × Int)} {many : Int} {cs : List Int} (n1 : 1 ≤ n) (n2 : n ≤ 420) (nn1 : n ≠ 1) (hp : Pt.Parts n ps) (l2 : ps.length ≤ 2) (lc : cs.length = ps.length) (c0 : ∀ c ∈ cs, 0 ≤ c) (dt : Ps.dot cs (ps.map Prod.fst) = many) (rd : Rd ps cs)
    (can : Ps.Can (ps.map Prod.fst) ((n : Int) - many)) : (∀ r ∈ grps (ps.map Prod.fst) cs (Starts n (ps.map Prod.fst)) ps.length, r.2.2 = 1 ∧ r.1 ∈ ps.map Prod.fst) ∧ (grps (ps.map Prod.fst) cs (Starts n (ps.map Prod.fst)) ps.length).Pairwise (Se.Dis n) ∧ ((grps (ps.map Prod.fst) cs (Starts n (ps.map Prod.fst)) ps.length).map fun r => r.1 * r.2.2).sum = many := by
  have ne := Sk.parts_ne hp nn1
  have rng : ∀ y ∈ ps, 2 ≤ y.1 ∧ y.1 ≤ n ∧ y.1 ∣ (n : Int) := fun y hy => by
    have pd : y.1 ∣ (n : Int) := ((Pt.part_iff hp y).mp hy).2.1
    exact ⟨(hp.row y hy).pr.1, Int.le_of_dvd (by omega) pd, pd⟩
  match ps, l2, hp, rng, ne, cs, lc, can, dt, c0, rd with
  | [], _, _, _, ne, _, _, _, _, _, _ => exact absurd rfl ne
  | [x], _, hp, rng, _, [c], _, can, dt, c0, rd =>
    obtain ⟨p2, pn, pd⟩ := rng x (by simp)
    have dt' : c * x.1 = many := by have : c * x.1 + 0 = many := dt; omega
    have c1 := c0 c (by simp)
    have mo := Se.most1 p2 pd dt' can
    have e : grps ([x].map Prod.fst) [c] (Starts n ([x].map Prod.fst)) [x].length = Se.rows1 x.1 c.toNat := by
      show grps [x.1] [c] (Starts n [x.1]) (0 + 1) = _
      rw [grps_succ]
      show [] ++ (((List.range ((n : Int) / x.1).toNat).map fun (i : Nat) => (i : Int)).take c.toNat).map (fun h => (x.1, h, (1 : Int))) = _
      rw [take_range_map _ (by omega), List.map_map]; rfl
    rw [e]
    exact ⟨Se.rows1_one, Se.rows1_dis (by rw [Int.toNat_of_nonneg c1]; exact mo), by rw [Se.rows1_sum, Int.toNat_of_nonneg c1]; exact dt'⟩
  | [x, y], _, hp, rng, _, [a, b], _, can, dt, c0, rd =>
    obtain ⟨p2, pn, pd⟩ := rng x (by simp)
    obtain ⟨q2, qn, qd⟩ := rng y (by simp)
    obtain ⟨m, T2, em⟩ := Sk.two_of n1 hp rfl
    have dt' : a * x.1 + b * y.1 = many := by have : a * x.1 + (b * y.1 + 0) = many := dt; omega
    have a0 := c0 a (by simp)
    have b0 := c0 b (by simp)
    have mo := Se.most T2 a0 b0 dt' can
    have bx := rd x y rfl a b rfl
    have le : a.toNat ≤ m * y.1.toNat := by
      have : ((m * y.1.toNat : Nat) : Int) = m * y.1 := by rw [Int.natCast_mul, Int.toNat_of_nonneg (by omega)]
      omega
    have e : grps ([x, y].map Prod.fst) [a, b] (Starts n ([x, y].map Prod.fst)) [x, y].length = Se.rows2 x.1 y.1 m a.toNat b.toNat := by
      show grps [x.1, y.1] [a, b] (Starts n [x.1, y.1]) (0 + 1 + 1) = _
      rw [grps_succ, grps_succ]
      show [] ++ (((List.range (((n : Int) / (x.1 * y.1)).toNat * y.1.toNat)).map (Se.F y.1.toNat (x.1 * (((n : Int) / (x.1 * y.1)).toNat : Nat)))).take a.toNat).map (fun h => (x.1, h, (1 : Int))) ++ (((List.range x.1.toNat).map fun (k : Nat) => (k : Int) * (y.1 * (((n : Int) / (x.1 * y.1)).toNat : Nat))).take b.toNat).map (fun h => (y.1, h, (1 : Int))) = _
      rw [em, Int.toNat_natCast, take_range_map _ le, take_range_map _ (by omega), List.map_map, List.map_map]; rfl
    rw [e]
    refine ⟨fun r hr => Se.rows2_one r hr, Se.rows2_dis T2 (by omega) (by omega) ?_, by rw [Se.rows2_sum, Int.toNat_of_nonneg a0, Int.toNat_of_nonneg b0]; exact dt'⟩
    by_cases bz : b = 0
    · exact .inl (by omega)
    · exact .inr (by have := mo.2 (by omega); omega)
theorem grp_len {pl cs : List Int} {ls : List (List Int)} (h : ∀ l ∈ ls, l.length ≤ 420) (j : Nat) : (grp pl cs ls j).length ≤ 420 := by
  unfold grp
  rw [List.length_map, List.length_take]
  rcases Nat.lt_or_ge j ls.length with g | g
  · have : (ls.getD j []).length ≤ 420 := by rw [List.getD, List.getElem?_eq_getElem g]; exact h _ (List.getElem_mem g)
    omega
  · have : ls.getD j [] = [] := by rw [List.getD, List.getElem?_eq_none g]; rfl
    rw [this]; simp
def spSetting : Sp := fun vs H Q _ => ∃ (n : Nat) (many : Int) (ps : List (Int × Int)), vs = [.int n, .int many] ∧ 1 ≤ n ∧ n ≤ 420 ∧ Pt.Parts n ps ∧ ps.length ≤ 2 ∧
  (¬ Due n (ps.map Prod.fst) many → ∀ H', Same H H' → Q .non H') ∧ (Due n (ps.map Prod.fst) many → ∀ t H' b, Same H H' → H' t = some (.lst (b.map V.int)) → Se.Set n (ps.map Prod.fst) many b → Q (.ref t) H')
theorem ok_setting (T : Txt K mg t_LEAD_BITS) : Df P w K mg base 5 "setting" ["n", "many"] spSetting := by
  have D_prime_sum := ok_prime_sum (P := P) (w := w) (base := base) T
  have D_few_primes := ok_few_primes (P := P) (w := w) (base := base) T
  have D_ring_starts := ok_ring_starts (P := P) (w := w) (base := base) T
  have D_laid := ok_laid (P := P) (w := w) (base := base) T
  refine T.d_setting.ok sc_setting (fun vs H Q E h => ?_) (fun f cdv A outer s H vs Q E hr h => ?_)
  · obtain ⟨_, _, _, rfl, _⟩ := h; rfl
  obtain ⟨n, many, ps, rfl, n1, n2, hp, l2, qn, qc⟩ := h
  have nd := sc_setting.nd
  refine ⟨_, (pss_cons (ps_if (pt_cmpR op_eq (pv 0) pe_int (nomark _)) (pss_one (ps_ret (pe_ifExp (pt_cmpR op_eq (pv 1) pe_int (nomark _)) (pe_lst (pa_cons pe_int pa_nil)) pe_non))) pss_nil) (pss_cons (ps_set (i := 2) nd rfl (Or.inl rfl) (pe_def D_prime_sum (hr.mono (by decide)) (by rfl) (pa_cons (pv 0) (pa_cons (pv 1) pa_nil)))) (pss_cons (ps_if (PW.pt (pw_or (pt_cmpR op_isN (pv 2) pe_non (nomark _)) (pw_or1 (pt_cmpR op_isN (pe_def D_prime_sum (hr.mono (by decide)) (by rfl) (pa_cons (pv 0) (pa_cons (pe_op op_sub (pv 0) (pv 1)) pa_nil))) pe_non (nomark _))))) (pss_one (ps_ret pe_non)) pss_nil) (pss_cons (ps_set (i := 3) nd rfl (Or.inl rfl) (pe_lst pa_nil)) (pss_cons (ps_for PassesOwn.never rfl (pi_zt (by rfl) T.b_zip (pa_cons (pe_def D_few_primes (hr.mono (by decide)) (by rfl) (pa_cons (pv 0) pa_nil)) (pa_cons (pv 2) (pa_cons (pe_def D_ring_starts (hr.mono (by decide)) (by rfl) (pa_cons (pv 0) pa_nil)) pa_nil)))) (pg_tup rfl (pgs_cons (pg_name (i := 4) nd rfl (Or.inr rfl)) (pgs_cons (pg_name (i := 5) nd rfl (Or.inl rfl)) (pgs_cons (pg_name (i := 6) nd rfl (Or.inl rfl)) pgs_nil)))) (pss_one (ps_expr (pe_bm PySem.F.plainAttrs_list PySem.F.slot_list_extend PySem.F.type_list_extend mt_extend (pv 3) (pa_cons (pe_listcomp (cap := [("p", 4)]) (tgs := ["hole"])  rfl rfl rfl (by decide +kernel) (by decide +kernel) (free_ok (by rfl)) (sub_cons rfl sub_nil) (cap_cons ⟨rfl, Or.inl rfl, Or.inl rfl, _, rfl⟩ cap_nil) (leaves_name (by decide)) (pi_list (pe_slice sl_list (pv 6) po_none (po_some (pv 5)))) (fun C s H fp => ⟨(pg_name (i := 1) (show (["p", "hole"] : List Str).Nodup by decide +kernel) rfl (Or.inl rfl) (Or.inr rfl)), pts_nil, (pe_tup (pa_cons (pv 0) (pa_cons (pv 1) (pa_cons pe_int pa_nil))))⟩)) pa_nil))))) (pss_one (ps_ret (pe_def D_laid (hr.mono (by decide)) (by rfl) (pa_cons (pv 0) (pa_cons (pv 3) pa_nil)))))))))), ?_⟩
  refine ⟨_, rfl, rfl, _, rfl, ite2 (fun c => ?_) (fun c => ?_)⟩
  · have e1 : n = 1 := by have := vint c; omega
    subst e1
    have ps0 : ps = [] := Pt.parts_one hp ⟨rfl, fun x hx => (nomatch hx), .nil⟩
    subst ps0
    refine ⟨_, rfl, rfl, _, rfl, ite2 (fun c1 => ?_) (fun c1 => ?_)⟩
    · have m0 := vint c1
      refine ⟨(by show 1 ≤ sizeLine; decide), fun t ht => ?_⟩
      have z : ∀ x, Ld.at' [(0 : Int)] x = 0 := fun x => Ld.at_rep 1 x
      exact qc (.inl ⟨rfl, m0⟩) t _ [0] (same_new (Same.refl _) ht) upd_same ⟨rfl, fun x => .inl (z x), m0.symm, z⟩
    · exact qn (fun d => by rcases d with d | d; exact nvint c1 d.2; exact d.1 rfl) _ (Same.refl _)
  have nn1 : n ≠ 1 := fun z => nvint c (by rw [z]; rfl)
  have pd : ∀ p ∈ ps.map Prod.fst, 2 ≤ p ∧ p ∣ (n : Int) := fun p hp' => by
    obtain ⟨x, hx, ex⟩ := List.mem_map.mp hp'
    rw [← ex]; exact ⟨(hp.row x hx).pr.1, ((Pt.part_iff hp x).mp hx).2.1⟩
  refine ⟨_, rfl, _, rfl, n, many, ps, rfl, n1, n2, hp, l2, fun nc H1 sm1 => ?_, fun cn t1 H1 cs sm1 h1 lc c0 dt rd => ?_⟩
  · refine ⟨_, rfl, rfl, _, rfl, iteT' (decide_eq_true rfl) ?_⟩
    exact qn (fun d => by rcases d with d | d; exact nn1 d.1; exact nc d.2.1) _ sm1
  refine ⟨_, rfl, rfl, _, rfl, iteF' (fun z => V.noConfusion (of_decide_eq_true z)) ?_⟩
  refine ⟨_, rfl, _, rfl, _, rfl, _, _, rfl, rfl, n, (n : Int) - many, ps, rfl, n1, n2, hp, l2, fun nc H2 sm2 => ?_, fun cn2 t2 H2 cs2 sm2 h2 lc2 c02 dt2 rd2 => ?_⟩
  · refine ⟨rfl, _, rfl, iteT' (decide_eq_true rfl) ?_⟩
    exact qn (fun d => by rcases d with d | d; exact nn1 d.1; exact nc d.2.2) _ (sm1.trans sm2)
  refine ⟨rfl, _, rfl, iteF' (fun z => V.noConfusion (of_decide_eq_true z)) ?_⟩
  obtain ⟨one, dis, sum⟩ := set_rows n1 n2 nn1 hp l2 lc c0 dt rd cn2
  obtain ⟨sl, sb⟩ := starts_len n1 n2 nn1 hp l2
  have smA := sm1.trans sm2
  have h12 := sm2 _ _ h1
  refine ⟨Nat.zero_le _, fun ro hro => ?_⟩
  have ro0 : H ro = none := smA.free hro
  have sm3 : Same H2 (upd H2 ro (.lst [])) := same_new (Same.refl _) hro
  have hr3 : upd H2 ro (.lst []) ro = some (.lst []) := upd_same
  generalize upd H2 ro (.lst []) = H3 at sm3 hr3 ⊢
  refine ⟨_, rfl, n, ps, rfl, n1, n2, hp, l2, fun rp H4 sm4 h4 => ⟨_, rfl, _, rfl, n, ps, rfl, n1, n2, nn1, hp, l2, fun rs H5 as sm5 h5 pr => ?_⟩⟩
  have al := Paired.length pr
  have h45 := sm5 _ _ h4
  have h15 := sm5 _ _ (sm4 _ _ (sm3 _ _ h12))
  have hr5 := sm5 _ _ (sm4 _ _ hr3)
  have smB := smA.trans (sm3.trans (sm4.trans sm5))
  have pl0 : (ps.map Prod.fst).length = ps.length := List.length_map _
  have ml : ((ps.map Prod.fst).map V.int).length = ps.length := by rw [List.length_map, List.length_map]
  obtain ⟨ne0, nes⟩ := starts_ne n1 nn1 hp l2
  have pos : 0 < ps.length := ne0
  have nrp : rp ≠ ro := fun z => by rw [z, hr5] at h45; have := congrArg (fun o => match o with | some (HO.lst l) => l.length | _ => 0) h45; simp at this; omega
  have nrs : rs ≠ ro := fun z => by rw [z, hr5] at h5; have := congrArg (fun o => match o with | some (HO.lst l) => l.length | _ => 0) h5; simp at this; omega
  have nt1 : t1 ≠ ro := ne_of_none h12 hro
  have nas : ∀ (i : Nat) a, as[i]? = some a → a ≠ ro ∧ ∃ l, (Starts n (ps.map Prod.fst))[i]? = some l ∧ H5 a = some (.lst (l.map V.int)) := fun i a ha => by
    obtain ⟨l, el, hl⟩ := paired_get pr ha
    refine ⟨fun z => ?_, l, el, hl⟩
    rw [z, hr5] at hl
    have := congrArg (fun o => match o with | some (HO.lst l) => l.length | _ => 0) hl
    have ln := nes l (List.mem_of_getElem? el)
    cases l with
    | nil => exact ln rfl
    | cons u v => simp at this
  refine ⟨rp, t1, rs, rfl, ⟨_, SqL.of h45⟩, ⟨_, SqL.of h15⟩, ⟨_, SqL.of h5⟩, ?_⟩
  refine for_zt (K := K) (xs := (ps.map Prod.fst).map V.int) (ys := cs.map V.int) (zs := as.map V.ref) (by rw [ml, List.length_map, lc]) (by rw [ml, List.length_map, al, sl])
    (fun i σ H6 => (∀ d o, d ≠ ro → H5 d = some o → H6 d = some o) ∧ (grps (ps.map Prod.fst) cs (Starts n (ps.map Prod.fst)) i).length ≤ i * 420 ∧ TrAt H6 ro (grps (ps.map Prod.fst) cs (Starts n (ps.map Prod.fst)) i) ∧ ∃ o4 o5 o6 : Option V, σ = [some (.int n), some (.int many), some (.ref t1), some (.ref ro), o4, o5, o6])
    ⟨fun d o _ h => h, by simp [grps], ⟨[], hr5, .nil⟩, none, none, none, rfl⟩ (fun i σ H6 _ z => ⟨SqL.of (z.1 _ _ nrp h45), SqL.of (z.1 _ _ nt1 h15), SqL.of (z.1 _ _ nrs h5)⟩) ?_ ?_
  · rintro i xv yv zv σ H6 pz hx hy hz ⟨kp, rl, ⟨rr, hrr, prr⟩, o4, o5, o6, rfl⟩ hpz
    obtain ⟨p, rfl, ep⟩ := int_at hx
    obtain ⟨c, rfl, ec⟩ := int_at hy
    obtain ⟨a, rfl, ea⟩ := ref_at hz
    obtain ⟨na, l, el, hl⟩ := nas i a ea
    have i2 : i < 2 := by have := (List.getElem?_eq_some_iff.mp ep).1; omega
    have cc0 := c0 c (List.mem_of_getElem? ec)
    have ll := sb l (List.mem_of_getElem? el)
    have eg : grp (ps.map Prod.fst) cs (Starts n (ps.map Prod.fst)) i = (l.take c.toNat).map fun h => (p, h, (1 : Int)) := by unfold grp; rw [getD_of el, getD_of ec, getD_of ep]
    have gl := grp_len (pl := ps.map Prod.fst) (cs := cs) sb i
    have npz : ro ≠ pz := ne_of_none hrr hpz
    have sm7 : Same H6 (upd H6 pz (.tup [.int p, .int c, .ref a])) := same_new (Same.refl _) hpz
    refine ⟨pz, _, rfl, SqT.of upd_same, rfl, _, _, rfl, _, _, rfl, _, _, rfl, rfl, ?_⟩
    generalize upd H6 pz (.tup [.int p, .int c, .ref a]) = H7 at sm7 ⊢
    have hl7 := sm7 _ _ (kp _ _ na hl)
    have hr7 := sm7 _ _ hrr
    refine ⟨_, rfl, .inl ⟨rfl, _, SqL.of hr7⟩, _, rfl, _, rfl, c, rfl, a, _, rfl, SqL.of hl7, fun d hd => ⟨d, rfl, ⟨_, SqL.of upd_same⟩, ?_⟩⟩
    have ecut : cutV (l.map V.int) none (some c) = (l.take c.toNat).map V.int := by
      have e := cut_toA (l.map V.int) c.toNat
      rw [Int.toNat_of_nonneg cc0, ← List.map_take] at e
      exact e
    rw [ecut]
    have sm8 : Same H7 (upd H7 d (.lst ((l.take c.toNat).map V.int))) := same_new (Same.refl _) hd
    have hd8 : upd H7 d (.lst ((l.take c.toNat).map V.int)) d = some (.lst ((l.take c.toNat).map V.int)) := upd_same
    generalize upd H7 d (.lst ((l.take c.toNat).map V.int)) = H8 at sm8 hd8 ⊢
    generalize hk : l.take c.toNat = ks at *
    have kl : ks.length ≤ 420 := by rw [← hk, List.length_take]; omega
    refine comp_list (K := K) (xs := ks.map V.int) (fun j ys H9 => Same H8 H9 ∧ ∃ bs : List Addr, ys = bs.map V.ref ∧ Paired (fun ad (x : Int × Int × Int) => H9 ad = some (.tup [.int x.1, .int x.2.1, .int x.2.2])) bs ((ks.take j).map fun h => (p, h, (1 : Int))))
      ⟨Same.refl _, [], rfl, by rw [List.take_zero]; exact .nil⟩ (fun j ys H9 _ z => z.1.seq (SqL.of hd8)) (fun j ys H9 hj z => by obtain ⟨_, bs, rfl, pb⟩ := z; have := Paired.length pb; rw [List.length_map, List.length_take] at this; rw [List.length_map] at hj ⊢; exact size1 (by omega)) ?_ ?_
    · rintro j hv ys H9 hh ⟨sm9, bs, rfl, pb⟩
      obtain ⟨h, rfl, eh⟩ := int_at hh
      refine ⟨_, rfl, _, rfl, (by show 3 ≤ sizeLine; decide), fun ad had => ?_⟩
      refine ⟨same_new sm9 had, bs ++ [ad], by rw [List.map_append]; rfl, ?_⟩
      rw [Pt.take_snoc eh, List.map_append]
      exact Paired.snoc (Paired.mapP pb fun d x e => (upd_ne (ne_of_none e had)).trans e) upd_same
    rintro ys H9 ⟨sm9, bs, rfl, pb⟩ D hD
    rw [List.length_map, List.take_length, ← eg] at pb
    have smC : Same H6 (upd H9 D (.lst (bs.map V.ref))) := same_new (sm7.trans (sm8.trans sm9)) hD
    have hDA : upd H9 D (.lst (bs.map V.ref)) D = some (.lst (bs.map V.ref)) := upd_same
    have pbA := Paired.mapP pb fun d x e => (show upd H9 D (.lst (bs.map V.ref)) d = some (.tup [.int x.1, .int x.2.1, .int x.2.2]) from (upd_ne (ne_of_none e hD)).trans e)
    generalize upd H9 D (.lst (bs.map V.ref)) = HA at smC hDA pbA ⊢
    have hrA := smC _ _ hrr
    have l1 := Paired.length prr
    have l3 := Paired.length pb
    refine ⟨ro, D, _, _, rfl, rfl, hrA, hDA, by rw [List.length_map, List.length_map, l1, l3]; exact size2 (by omega), ?_⟩
    have k1 : ∀ d (x : Int × Int × Int), HA d = some (.tup [.int x.1, .int x.2.1, .int x.2.2]) → upd HA ro (.lst (rr.map V.ref ++ bs.map V.ref)) d = some (.tup [.int x.1, .int x.2.1, .int x.2.2]) := fun d x e => (upd_ne (fun z => by rw [z, hrA] at e; cases e)).trans e
    refine ⟨fun d o nd' h => (upd_ne nd').trans (smC _ _ (kp d o nd' h)), by rw [grps_succ, List.length_append]; omega, ⟨rr ++ bs, by rw [upd_same, List.map_append], ?_⟩, _, _, _, rfl⟩
    rw [grps_succ]
    exact Paired.appP (Paired.mapP prr fun d x e => k1 d x (smC _ _ e)) (Paired.mapP pbA fun d x e => k1 d x e)
  · rintro σ H6 ⟨kp, rl, tr, o4, o5, o6, rfl⟩
    rw [ml] at rl tr
    have smD : Same H H6 := fun d o h => kp d o (fun z => by rw [z, ro0] at h; cases h) (smB d o h)
    refine ⟨_, rfl, _, rfl, n, ro, _, ps, rfl, n1, n2, tr, hp, fun x hx => (one x hx).2, fun t H' b sm f h lb bv => ?_⟩
    exact qc (.inr ⟨nn1, cn, cn2⟩) t H' b (smD.trans sm) h (Se.set_of n1 (by rw [List.length_map]; exact l2) pd one dis sum lb bv)

theorem and_join {b : Bool} {S R : Prop} (r : R) (s : b = true → R → S) : if b = true then S else R := by
  split
  · exact s (by assumption) r
  · exact r
def spSet (K : PySem.W.Frag) : Sp := fun vs H Q _ => ∃ (l : Addr) (a : List Int) (n : Nat) (many : Int) (ps : List (Int × Int)), vs = [.ref l, .int n, .int many] ∧ H l = some (.lst (a.map V.int)) ∧ 1 ≤ n ∧ n ≤ 420 ∧ Pt.Parts n ps ∧ ps.length ≤ 2 ∧ Se.Set n (ps.map Prod.fst) many a ∧ ∀ H', Same H H' → Q (.bl true) H'
theorem ok_law_set (T : Txt K mg t_LEAD_BITS) : Df P w K mg base 3 "_law_set" ["found", "n", "many"] (spSet K) := by
  have D_law_primes := ok_law_primes (P := P) (w := w) (base := base) T
  have D_law_numbers := ok_law_numbers (P := P) (w := w) (base := base) T
  refine T.d_law_set.ok sc_law_set (fun vs H Q E h => ?_) (fun f cdv A outer s H vs Q E hr h => ?_)
  · obtain ⟨_, _, _, _, _, rfl, _⟩ := h; rfl
  obtain ⟨l, a, n, many, ps, rfl, hl, n1, n2, hp, l2, st, q⟩ := h
  have nd := sc_law_set.nd
  have la := st.len
  have len2 : (ps.map Prod.fst).length ≤ 2 := by rw [List.length_map]; exact l2
  have evt := (Sk.ev_tot (a := Ld.at' a) n1 (Ld.at_per' la) len2).mp st.ev
  have sl := Sk.stp_len n (ps.map Prod.fst) len2
  refine ⟨_, (pss_cons (ps_if (PW.pt (pw_or (pt_not (pt_val (pe_def D_law_numbers (hr.mono (by decide)) (by rfl) (pa_cons (pv 0) (pa_cons (pv 1) pa_nil))))) (pw_or1 (pt_cmpR op_ne (pe_callB (call_sumL rfl) (by rfl) T.b_sum L2.bi_sum (pa_cons (pv 0) pa_nil)) (pv 2) (nomark _))))) (pss_one (ps_ret pe_bl)) pss_nil) (pss_cons (ps_set (i := 3) nd rfl (Or.inl rfl) (pe_lst (pa_cons pe_int pa_nil))) (pss_cons (ps_for PassesOwn.never rfl (pi_list (pe_def D_law_primes (hr.mono (by decide)) (by rfl) (pa_cons (pv 1) pa_nil))) (pg_name (i := 4) nd rfl (Or.inr rfl)) (pss_one (ps_set (i := 3) nd rfl (Or.inl rfl) (pe_op op_cat (pv 3) (pe_listcomp (cap := [("n", 1), ("p", 4)]) (tgs := ["far"])  rfl rfl rfl (by decide +kernel) (by decide +kernel) (free_ok (by rfl)) (sub_cons rfl (sub_cons rfl sub_nil)) (cap_cons ⟨rfl, Or.inl rfl, Or.inl rfl, _, rfl⟩ (cap_cons ⟨rfl, Or.inl rfl, Or.inl rfl, _, rfl⟩ cap_nil)) (leaves_name (by decide)) (pi_list (pv 3)) (fun C s H fp => ⟨(pg_name (i := 2) (show (["n", "p", "far"] : List Str).Nodup by decide +kernel) rfl (Or.inl rfl) (Or.inr rfl)), pts_nil, (pe_op op_add (pv 2) (pe_op op_fdivB (pv 0) (pv 1)))⟩)))))) (pss_cons (ps_for PassesOwn.never rfl (pi_range1 (by rfl) T.b_range (pa_cons (pv 1) pa_nil)) (pg_name (i := 5) nd rfl (Or.inl rfl)) (pss_cons (ps_if (PW.pt (pw_and (pt_cmpR op_ne (pe_ix ix_list (pv 0) (pv 5) (fun _ _ => rfl)) pe_int (nomark _)) (pw_and1 (pt_cmpR op_ne (pe_ix ix_list (pv 0) (pv 5) (fun _ _ => rfl)) pe_int (nomark _))))) (pss_one (ps_ret pe_bl)) pss_nil) (pss_cons (ps_set (i := 6) nd rfl (Or.inl rfl) pe_int) (pss_cons (ps_for PassesOwn.never rfl (pi_range1 (by rfl) T.b_range (pa_cons (pe_callB call_len_seq (by rfl) T.b_len L2.bi_len (pa_cons (pv 3) pa_nil)) pa_nil)) (pg_name (i := 7) nd rfl (Or.inl rfl)) (pss_cons (ps_set (i := 8) nd rfl (Or.inl rfl) (pe_ix ix_list (pv 0) (pe_op op_mod (pe_op op_add (pv 5) (pe_ix ix_list (pv 3) (pv 7) (fun _ _ => rfl))) (pv 1)) (fun _ _ => rfl))) (pss_cons (ps_if (PW.pt (pw_or (pt_cmpR op_eq (pv 7) pe_int (nomark _)) (pw_or1 (pt_cmpR op_eq (pv 7) pe_int (nomark _))))) (pss_one (ps_set (i := 8) nd rfl (Or.inl rfl) (pe_op op_sub pe_int (pv 8)))) pss_nil) (pss_one (ps_set (i := 6) nd rfl (Or.inl rfl) (pe_op op_add (pv 6) (pv 8))))))) (pss_one (ps_if (pt_cmpR op_ne (pv 6) pe_int (nomark _)) (pss_one (ps_ret pe_bl)) pss_nil)))))) (pss_one (ps_ret pe_bl)))))), ?_⟩
  refine ⟨_, rfl, _, rfl, l, a, by rw [la]; rfl, hl, by omega, fun HN smN => ⟨true, rfl, iteF ?_⟩⟩
  have hlN := smN _ _ hl
  refine ⟨_, rfl, l, a, rfl, SqL.of hlN, _, rfl, rfl, _, rfl, iteNS (by rw [st.sum]) ?_⟩
  refine ⟨(by show 1 ≤ sizeLine; decide), fun s0 hs0 => ?_⟩
  have sm0 : Same HN (upd HN s0 (.lst [V.int 0])) := same_new (Same.refl _) hs0
  have h00 : upd HN s0 (.lst [V.int 0]) s0 = some (.lst [V.int 0]) := upd_same
  generalize upd HN s0 (.lst [V.int 0]) = H0 at sm0 h00 ⊢
  refine ⟨_, rfl, n, rfl, n1, n2, fun r1 H1 ps1 sm1 f1 h1 hp1 => ?_⟩
  have epp := Pt.parts_one hp1 hp
  subst epp
  refine ⟨r1, rfl, ⟨_, SqL.of h1⟩, ?_⟩
  refine for_list (xs := (ps1.map Prod.fst).map V.int) (fun i σ H2 => Same H1 H2 ∧ ∃ (st : Addr) (o1 : Option V), σ = [some (.ref l), some (.int n), some (.int many), some (.ref st), o1, none, none, none, none] ∧ H2 st = some (.lst ((Sk.stp n ((ps1.map Prod.fst).take i)).map V.int)))
    ⟨Same.refl _, s0, none, rfl, sm1 _ _ h00⟩ (fun i σ H2 _ z => z.1.seq (SqL.of h1)) ?_ ?_
  · rintro i xv σ H2 hx ⟨sm2, st, o1, rfl, hst⟩
    obtain ⟨p, rfl, ep⟩ := int_at hx
    have pm := List.mem_of_getElem? ep
    obtain ⟨y, hy, ey⟩ := List.mem_map.mp pm
    have pd : p ∣ (n : Int) := by rw [← ey]; exact ((Pt.part_iff hp y).mp hy).2.1
    have p2 : 2 ≤ p := by rw [← ey]; exact (hp.row y hy).pr.1
    have pn := Int.le_of_dvd (by omega) pd
    have li := Sk.stp_len n ((ps1.map Prod.fst).take i) (by rw [List.length_take]; omega)
    refine ⟨_, rfl, _, rfl, st, rfl, ⟨_, SqL.of hst⟩, ?_⟩
    refine comp_list (K := K) (xs := (Sk.stp n ((ps1.map Prod.fst).take i)).map V.int) (fun j ys H3 => H3 = H2 ∧ ys = (((Sk.stp n ((ps1.map Prod.fst).take i)).take j).map fun f => f + (n : Int) / p).map V.int) ⟨rfl, by simp⟩ (fun j ys H3 _ z => by rw [z.1]; exact SqL.of hst)
      (fun j ys H3 hj z => by rw [List.length_map] at hj; rw [z.2, List.length_map, List.length_map, List.length_take]; exact size1 (by omega)) ?_ ?_
    · rintro j xv ys H3 hx3 ⟨rfl, rfl⟩
      obtain ⟨f, rfl, ef⟩ := int_at hx3
      refine ⟨_, rfl, _, rfl, _, rfl, _, _, rfl, rfl, div_small (by omega) (by omega), _, _, rfl, rfl, rfl, ?_⟩
      rw [Pt.take_snoc ef, List.map_append, List.map_append]; rfl
    rintro ys H3 ⟨rfl, rfl⟩ D hD
    rw [List.length_map, List.take_length]
    have hst3 : upd H3 D (.lst (((Sk.stp n ((ps1.map Prod.fst).take i)).map fun f => f + (n : Int) / p).map V.int)) st = some (.lst ((Sk.stp n ((ps1.map Prod.fst).take i)).map V.int)) := (upd_ne (ne_of_none hst hD)).trans hst
    refine ⟨st, D, _, _, rfl, rfl, hst3, upd_same, by rw [List.length_map, List.length_map, List.length_map]; exact size2 (by omega), fun u hu => ?_⟩
    refine ⟨same_new (same_new sm2 hD) hu, u, _, rfl, ?_⟩
    rw [upd_same, Pt.take_snoc ep, Sk.stp_snoc, List.map_append]
  rintro σ H2 ⟨sm2, sr, o1, rfl, hst⟩
  rw [List.length_map, List.take_length] at hst
  have smA := (sm0.trans sm1).trans sm2
  have hlA := smA _ _ hlN
  generalize hSL : Sk.stp n (ps1.map Prod.fst) = SL at *
  refine ⟨_, rfl, _, rfl, by omega, by omega, ?_⟩
  rw [Int.toNat_natCast]
  refine for_range0 (fun i σ H3 => H3 = H2 ∧ ∃ o2 o3 o4 o5 : Option V, σ = [some (.ref l), some (.int n), some (.int many), some (.ref sr), o1, o2, o3, o4, o5])
    ⟨rfl, none, none, none, none, rfl⟩ ?_ ?_
  · rintro i σ H3 hi ⟨rfl, o2, o3, o4, o5, rfl⟩
    have ati : atI (a.map V.int) (i : Int) = some (.int (Ld.at' a i)) := atI_k (by omega) (by omega)
    refine ⟨_, rfl, _, rfl, l, _, _, _, rfl, rfl, SqL.of hlA, ati, rfl, _, rfl, and_join ?_ (fun c r => ⟨_, rfl, _, rfl, l, _, _, _, rfl, rfl, SqL.of hlA, ati, rfl, _, rfl, iteF' (fun c2 => ?_) r⟩)⟩
    case refine_2 => rcases st.zo i with z | z; exact vne c z; exact vne c2 z
    refine ⟨_, rfl, sr, _, rfl, .inl (SqL.of hst), _, rfl, by rw [List.length_map]; omega, by rw [List.length_map]; omega, ?_⟩
    rw [List.length_map, Int.toNat_natCast]
    refine for_range0 (fun k σ H4 => H4 = H3 ∧ ∃ o4 o5 : Option V, σ = [some (.ref l), some (.int n), some (.int many), some (.ref sr), o1, some (.int i), some (.int (Sk.tot (Ld.at' a) SL i k)), o4, o5]) ⟨rfl, _, _, rfl⟩ ?_ ?_
    · rintro k σ H4 hk ⟨rfl, o4, o5, rfl⟩
      have gk : Ld.at' SL k = SL.getD k 0 := by
        unfold Ld.at'
        rw [Int.emod_eq_of_lt (by omega) (by omega), Int.toNat_natCast]
      refine ⟨_, rfl, _, rfl, _, rfl, _, rfl, sr, _, _, _, rfl, rfl, SqL.of hst, atI_k (by omega) (by omega), _, _, rfl, rfl, _, rfl, _, _, rfl, rfl, by omega, l, _, _, _, rfl, rfl, SqL.of hlA, atI_mod la (by omega) _, ?_⟩
      have fin : ∀ v : Int, v = (if k = 1 ∨ k = 2 then 0 - Ld.at' a ((i : Int) + SL.getD k 0) else Ld.at' a ((i : Int) + SL.getD k 0)) → Sk.tot (Ld.at' a) SL i k + v = Sk.tot (Ld.at' a) SL i (k + 1) := fun v hv => by rw [Sk.tot_succ, hv]
      refine ⟨_, rfl, rfl, _, rfl, ite2 (fun c => ?_) (fun c => ⟨_, rfl, rfl, _, rfl, ite2 (fun c2 => ?_) (fun c2 => ?_)⟩)⟩
      · have e := vint c
        refine ⟨_, rfl, _, _, rfl, rfl, _, rfl, _, rfl, _, _, rfl, rfl, rfl, some (.int (k : Int)), some (.int (0 - Ld.at' a ((i : Int) + Ld.at' SL k))), ?_⟩
        rw [← fin (0 - Ld.at' a ((i : Int) + Ld.at' SL k)) (by rw [if_pos (.inl (by omega)), gk])]
        rfl
      · have e := vint c2
        refine ⟨_, rfl, _, _, rfl, rfl, _, rfl, _, rfl, _, _, rfl, rfl, rfl, some (.int (k : Int)), some (.int (0 - Ld.at' a ((i : Int) + Ld.at' SL k))), ?_⟩
        rw [← fin (0 - Ld.at' a ((i : Int) + Ld.at' SL k)) (by rw [if_pos (.inr (by omega)), gk])]
        rfl
      · have e1 := nvint c
        have e2 := nvint c2
        refine ⟨_, rfl, _, rfl, _, _, rfl, rfl, rfl, some (.int (k : Int)), some (.int (Ld.at' a ((i : Int) + Ld.at' SL k))), ?_⟩
        rw [← fin (Ld.at' a ((i : Int) + Ld.at' SL k)) (by rw [if_neg (by omega), gk])]
        rfl
    · rintro σ H4 ⟨rfl, o4, o5, rfl⟩
      exact ⟨_, rfl, rfl, _, rfl, iteF' (fun c => absurd (evt i hi) (vne c)) ⟨rfl, _, _, _, _, rfl⟩⟩
  · rintro σ H3 ⟨rfl, o2, o3, o4, o5, rfl⟩
    exact q _ (smN.trans smA)

theorem ok_law (T : Txt K mg t_LEAD_BITS) {f : Addr} {fd : FuncData} (F : Fun K "law" "law" s_law f fd) : FnOk P w K mg base CX0 6 f fd ["script"] (spLaw K) := by
  have D_law_cell_at := ok_law_cell_at (P := P) (w := w) (base := base) T
  have D_law_wheel := ok_law_wheel (P := P) (w := w) (base := base) T
  have D_law_primes := ok_law_primes (P := P) (w := w) (base := base) T
  have D_law_drawn := ok_law_drawn (P := P) (w := w) (base := base) T
  have D_law_many := ok_law_many (P := P) (w := w) (base := base) T
  have D_law_can := ok_law_can (P := P) (w := w) (base := base) T
  have D_law_set := ok_law_set (P := P) (w := w) (base := base) T
  have D_setting := ok_setting (P := P) (w := w) (base := base) T
  refine F.ok sc_law (fun vs H Q E h => ?_) (fun cdv A outer s H vs Q E hr h => ?_)
  · obtain ⟨_, _, rfl, _⟩ := h; rfl
  obtain ⟨a, ns, rfl, hS, h63, q⟩ := h
  have nd := sc_law.nd
  refine ⟨_, (pss_cons (ps_set (i := 1) nd rfl (Or.inr rfl) (pe_def D_law_wheel (hr.mono (by decide)) (by rfl) (pa_cons (pe_def D_law_cell_at (hr.mono (by decide)) (by rfl) (pa_cons (pv 0) (pa_cons pe_int pa_nil))) pa_nil))) (pss_cons (ps_set (i := 2) nd rfl (Or.inl rfl) (pe_def D_law_primes (hr.mono (by decide)) (by rfl) (pa_cons (pv 1) pa_nil))) (pss_cons (ps_set (i := 3) nd rfl (Or.inl rfl) pe_int) (pss_mid (ps_if (pt_cmpR op_gt (pv 1) pe_int (nomark _)) (pss_one (ps_set (i := 3) nd rfl (Or.inl rfl) pe_int)) pss_nil) (pss_cons (ps_set (i := 4) nd rfl (Or.inl rfl) (pe_def D_law_drawn (hr.mono (by decide)) (by rfl) (pa_cons (pe_slice sl_list (pv 0) (po_some pe_int) (po_some pe_int)) (pa_cons (pv 3) pa_nil)))) (pss_cons (ps_setcomp (cap := [("n", 1)]) (tgs := ["cell"]) (i := 5) nd rfl (Or.inl rfl) rfl rfl rfl (by decide +kernel) (by decide +kernel) (free_ok (by rfl)) (sub_cons rfl sub_nil) (cap_cons ⟨rfl, Or.inl rfl, Or.inl rfl, _, rfl⟩ cap_nil) (leaves_name (by decide)) (pi_list (pv 4)) (fun C s H fp => ⟨(pg_name (i := 1) (show (["n", "cell"] : List Str).Nodup by decide +kernel) rfl (Or.inl rfl) (Or.inr rfl)), pts_nil, (pe_def D_law_many (hr.mono (by decide)) (by rfl) (pa_cons (pv 0) (pa_cons (pv 1) pa_nil)))⟩)) (pss_cons (ps_for PassesOwn.never rfl (pi_list (pe_op op_cat (pe_lst (pa_cons pe_int (pa_cons pe_int (pa_cons (pe_op op_sub (pv 1) pe_int) (pa_cons (pv 1) pa_nil))))) (pv 5))) (pg_name (i := 6) nd rfl (Or.inl rfl)) (pss_cons (ps_set (i := 7) nd rfl (Or.inl rfl) (pe_and (pe_def D_law_can (hr.mono (by decide)) (by rfl) (pa_cons (pv 2) (pa_cons (pv 6) pa_nil))) (pe_one (pe_def D_law_can (hr.mono (by decide)) (by rfl) (pa_cons (pv 2) (pa_cons (pe_op op_sub (pv 1) (pv 6)) pa_nil)))))) (pss_mid (ps_if (pt_cmpR op_eq (pv 1) pe_int (nomark _)) (pss_one (ps_set (i := 7) nd rfl (Or.inl rfl) (pe_cmpR op_eq (pv 6) pe_int (nomark _)))) pss_nil) (pss_cons (ps_set (i := 8) nd rfl (Or.inl rfl) (pe_def D_setting (hr.mono (by decide)) (by rfl) (pa_cons (pv 1) (pa_cons (pv 6) pa_nil)))) (pss_cons (ps_if (PW.pt (pw_and (pt_val (pv 7)) (pw_and1 (pt_not (pt_val (pe_def D_law_set (hr.mono (by decide)) (by rfl) (pa_cons (pv 8) (pa_cons (pv 1) (pa_cons (pv 6) pa_nil))))))))) (pss_one (ps_ret pe_bl)) pss_nil) (pss_one (ps_if (PW.pt (pw_and (pt_not (pt_val (pv 7))) (pw_and1 (pt_cmpR op_notN (pv 8) pe_non (nomark _))))) (pss_one (ps_ret pe_bl)) pss_nil))))))) (pss_one (ps_ret pe_bl))))))))), ?_⟩
  refine ⟨_, rfl, a, ns, 0, rfl, hS, Int.le_refl 0, fun v => ⟨v, rfl, fun n H0 ps n1 n2 hp l2 sm0 => ?_⟩⟩
  have pk : PL2 (ps.map Prod.fst) := ⟨by rw [List.length_map]; exact l2, fun p hp' => by
    obtain ⟨x, hx, ex⟩ := List.mem_map.mp hp'
    have a := Pt.row_le (hp.row _ hx)
    have b := Pt.le_Prd ps hp.row _ hx
    rw [hp.prd] at b
    rw [← ex]; omega⟩
  refine ⟨_, rfl, n, rfl, n1, n2, fun r1 H1 ps1 sm1 f1 h1 hp1 => ?_⟩
  have epp := Pt.parts_one hp1 hp
  subst epp
  refine ⟨fun σ H3 => H3 = H1 ∧ ∃ k : Nat, σ = [some (.ref a), some (.int n), some (.ref r1), some (.int k), none, none, none, none, none] ∧ 1 ≤ k ∧ k ≤ 24, ?_, ?_⟩
  · exact ⟨_, rfl, _, _, rfl, rfl, _, rfl, ite2 (fun _ => ⟨rfl, 4, rfl, by decide, by decide⟩) (fun _ => ⟨rfl, 12, rfl, by decide, by decide⟩)⟩
  rintro σ H3 ⟨rfl, k, rfl, k1, k2⟩
  obtain ⟨ms, em, lm⟩ := cut_map ns (some 1) (some 81)
  refine ⟨_, rfl, _, rfl, _, rfl, a, _, rfl, (sm0.trans sm1).seq hS, fun c hc => ?_⟩
  rw [em]
  have smc : Same H3 (upd H3 c (.lst (ms.map V.int))) := same_new (Same.refl _) hc
  have hcc : upd H3 c (.lst (ms.map V.int)) c = some (.lst (ms.map V.int)) := upd_same
  generalize upd H3 c (.lst (ms.map V.int)) = H4 at smc hcc ⊢
  refine ⟨_, rfl, c, ms, k, rfl, k1, k2, SqL.of hcc, by omega, fun da H5 ds sm5 h5 dl => ?_⟩
  refine ⟨_, rfl, da, rfl, ⟨_, SqL.of h5⟩, ?_⟩
  refine comp_list (K := K) (xs := ds.map V.int) (fun j ys H6 => H6 = H5 ∧ ∃ es : List Int, ys = es.map V.int ∧ es.length = j) ⟨rfl, [], rfl, rfl⟩ (fun j ys H6 _ z => by rw [z.1]; exact SqL.of h5)
    (fun j ys H6 hj z => by obtain ⟨_, es, rfl, e⟩ := z; rw [List.length_map] at hj ⊢; exact size1 (by omega)) ?_ ?_
  · rintro j xv ys H6 hx ⟨rfl, es, rfl, e⟩
    obtain ⟨u, rfl, hu⟩ := int_at hx
    exact ⟨_, rfl, _, rfl, n, u, rfl, fun v => ⟨rfl, es ++ [v], by rw [List.map_append]; rfl, by simp [e]⟩⟩
  rintro ys H6 ⟨rfl, es, rfl, e⟩ D hD
  have smD : Same H6 (upd H6 D (.lst (es.map V.int))) := same_new (Same.refl _) hD
  have hDD : upd H6 D (.lst (es.map V.int)) D = some (.lst (es.map V.int)) := upd_same
  generalize upd H6 D (.lst (es.map V.int)) = H7 at smD hDD ⊢
  have smE := (smc.trans sm5).trans smD
  have h17 := smE _ _ h1
  refine ⟨_, rfl, _, _, rfl, rfl, _, rfl, (by show 4 ≤ sizeLine; decide), fun l4 hl4 => ⟨_, rfl, l4, D, _, _, rfl, rfl, upd_same, (upd_ne (ne_of_none hDD hl4)).trans hDD, ?_, fun l5 hl5 => ?_⟩⟩
  · rw [List.length_map] at e
    rw [List.length_map]
    exact size2 (by show 4 + es.length ≤ 20000; omega)
  have smF : Same H7 (upd (upd H7 l4 (.lst [V.int 0, V.int 1, V.int ((n : Int) - 1), V.int n])) l5 (.lst ([V.int 0, V.int 1, V.int ((n : Int) - 1), V.int n] ++ es.map V.int))) := same_new (same_new (Same.refl _) hl4) hl5
  have h5F : upd (upd H7 l4 (.lst [V.int 0, V.int 1, V.int ((n : Int) - 1), V.int n])) l5 (.lst ([V.int 0, V.int 1, V.int ((n : Int) - 1), V.int n] ++ es.map V.int)) l5 = some (.lst (([0, 1, (n : Int) - 1, n] ++ es).map V.int)) := by rw [upd_same, List.map_append]; rfl
  generalize upd (upd H7 l4 (.lst [V.int 0, V.int 1, V.int ((n : Int) - 1), V.int n])) l5 (.lst ([V.int 0, V.int 1, V.int ((n : Int) - 1), V.int n] ++ es.map V.int)) = H8 at smF h5F ⊢
  have h18 := smF _ _ h17
  refine ⟨l5, rfl, ⟨_, SqL.of h5F⟩, ?_⟩
  refine for_list (xs := ([0, 1, (n : Int) - 1, n] ++ es).map V.int) (fun i σ HA => Same H8 HA ∧ ∃ o1 o2 o3 : Option V, σ = [some (.ref a), some (.int n), some (.ref r1), some (.int k), some (.ref da), some (.ref D), o1, o2, o3]) ⟨Same.refl _, none, none, none, rfl⟩ (fun i σ HA _ z => z.1.seq (SqL.of h5F)) ?_ ?_
  · rintro i xv σ HA hx ⟨smG, o1, o2, o3, rfl⟩
    obtain ⟨many, rfl, hm⟩ := int_at hx
    have h1A := smG _ _ h18
    refine ⟨_, rfl, _, rfl, r1, ps1.map Prod.fst, many, rfl, h1A, pk, fun b1 e1 => ⟨b1, rfl, ?_⟩⟩
    have two : ∀ due : Bool, (due = true ↔ Ps.Can (ps1.map Prod.fst) many ∧ Ps.Can (ps1.map Prod.fst) ((n : Int) - many)) → ∃ d2 : Bool, (d2 = if n = 1 then decide (many = 0) else due) ∧ (d2 = true ↔ Due n (ps1.map Prod.fst) many) := fun due hd => by
      refine ⟨_, rfl, ?_⟩
      unfold Due
      by_cases z : n = 1
      · rw [if_pos z]
        exact ⟨fun h => .inl ⟨z, of_decide_eq_true h⟩, fun h => by rcases h with h | h; exact decide_eq_true h.2; exact absurd z h.1⟩
      · rw [if_neg z]
        exact ⟨fun h => .inr ⟨z, hd.mp h⟩, fun h => by rcases h with h | h; exact absurd h.1 z; exact hd.mpr h.2⟩
    refine ite2 (fun b1t => ⟨_, rfl, _, rfl, _, rfl, _, _, rfl, rfl, r1, ps1.map Prod.fst, (n : Int) - many, rfl, h1A, pk, fun due e2 => ?_⟩) (fun b1f => ?_)
    · have hdue : due = true ↔ Ps.Can (ps1.map Prod.fst) many ∧ Ps.Can (ps1.map Prod.fst) ((n : Int) - many) := ⟨fun z => ⟨e1.mp b1t, e2.mp z⟩, fun z => e2.mpr z.2⟩
      refine ⟨fun σ HB => HB = HA ∧ ∃ d2 : Bool, σ = [some (.ref a), some (.int n), some (.ref r1), some (.int k), some (.ref da), some (.ref D), some (.int many), some (.bl d2), o3] ∧ (d2 = true ↔ Due n (ps1.map Prod.fst) many), ?_, ?_⟩
      · obtain ⟨d2, ed, hd⟩ := two due hdue
        refine ⟨_, rfl, rfl, _, rfl, ite2 (fun c1 => ?_) (fun c1 => ?_)⟩
        · have z : n = 1 := by have := vint c1; omega
          rw [if_pos z] at ed
          refine ⟨_, rfl, rfl, rfl, d2, ?_, hd⟩
          rw [ed]
          have : decide (V.int many = V.int 0) = decide (many = 0) := by by_cases m0 : many = 0 <;> simp [m0]
          rw [this]; rfl
        · have z : n ≠ 1 := fun z => nvint c1 (by rw [z]; rfl)
          rw [if_neg z] at ed
          exact ⟨rfl, d2, by rw [ed]; rfl, hd⟩
      rintro σ HB ⟨rfl, d2, rfl, hd⟩
      refine ⟨_, rfl, _, rfl, n, many, ps1, rfl, n1, n2, hp, l2, fun ndue HC smC => ?_, fun dd t HC b smC hC st => ?_⟩
      · have df : d2 = false := by cases d2 with | false => rfl | true => exact absurd (hd.mp rfl) ndue
        subst df
        refine ⟨_, rfl, false, rfl, iteF ?_⟩
        refine ⟨_, rfl, false, rfl, iteT ?_⟩
        exact ⟨_, rfl, rfl, _, rfl, iteF ⟨smG.trans smC, _, _, _, rfl⟩⟩
      · have df : d2 = true := hd.mpr dd
        subst df
        refine ⟨_, rfl, true, rfl, iteT ?_⟩
        refine ⟨_, rfl, _, rfl, _, rfl, t, b, n, many, ps1, rfl, hC, n1, n2, hp, l2, st, fun HE smE' => ⟨true, rfl, iteF ?_⟩⟩
        exact ⟨_, rfl, true, rfl, iteF ⟨(smG.trans smC).trans smE', _, _, _, rfl⟩⟩
    · have hdue : false = true ↔ Ps.Can (ps1.map Prod.fst) many ∧ Ps.Can (ps1.map Prod.fst) ((n : Int) - many) := ⟨fun z => (by cases z), fun z => absurd (e1.mpr z.1) b1f⟩
      refine ⟨fun σ HB => HB = HA ∧ ∃ d2 : Bool, σ = [some (.ref a), some (.int n), some (.ref r1), some (.int k), some (.ref da), some (.ref D), some (.int many), some (.bl d2), o3] ∧ (d2 = true ↔ Due n (ps1.map Prod.fst) many), ?_, ?_⟩
      · obtain ⟨d2, ed, hd⟩ := two false hdue
        refine ⟨_, rfl, rfl, _, rfl, ite2 (fun c1 => ?_) (fun c1 => ?_)⟩
        · have z : n = 1 := by have := vint c1; omega
          rw [if_pos z] at ed
          refine ⟨_, rfl, rfl, rfl, d2, ?_, hd⟩
          rw [ed]
          have : decide (V.int many = V.int 0) = decide (many = 0) := by by_cases m0 : many = 0 <;> simp [m0]
          rw [this]; rfl
        · have z : n ≠ 1 := fun z => nvint c1 (by rw [z]; rfl)
          rw [if_neg z] at ed
          exact ⟨rfl, d2, by rw [ed]; rfl, hd⟩
      rintro σ HB ⟨rfl, d2, rfl, hd⟩
      refine ⟨_, rfl, _, rfl, n, many, ps1, rfl, n1, n2, hp, l2, fun ndue HC smC => ?_, fun dd t HC b smC hC st => ?_⟩
      · have df : d2 = false := by cases d2 with | false => rfl | true => exact absurd (hd.mp rfl) ndue
        subst df
        refine ⟨_, rfl, false, rfl, iteF ?_⟩
        refine ⟨_, rfl, false, rfl, iteT ?_⟩
        exact ⟨_, rfl, rfl, _, rfl, iteF ⟨smG.trans smC, _, _, _, rfl⟩⟩
      · have df : d2 = true := hd.mpr dd
        subst df
        refine ⟨_, rfl, true, rfl, iteT ?_⟩
        refine ⟨_, rfl, _, rfl, _, rfl, t, b, n, many, ps1, rfl, hC, n1, n2, hp, l2, st, fun HE smE' => ⟨true, rfl, iteF ?_⟩⟩
        exact ⟨_, rfl, true, rfl, iteF ⟨(smG.trans smC).trans smE', _, _, _, rfl⟩⟩
  · rintro σ HA ⟨smG, o1, o2, o3, rfl⟩
    exact q _
end
theorem all_mk {l : PySem.W.OpenLaw} {w : World} {K : PySem.W.Frag} {h : Heap} {mg : Str → Option Value} {fa f0 f1 f2 f3 f4 f5 f6 f7 f8 f9 f10 f11 f12 f13 f14 f15 f16 f17 f18 f19 f20 f21 f22 f23 f24 f25 : Addr} (X : K.In h) (G : h.Ns mainGlobals mg) (hfa : mg "law" = some (.ref fa))
    {od0 an0 od1 an1 od2 an2 od3 an3 od4 an4 od5 an5 od6 an6 od7 an7 od8 an8 od9 an9 od10 an10 od11 an11 od12 an12 od13 an13 od14 an14 od15 an15 od16 an16 od17 an17 od18 an18 od19 an19 od20 an20 od21 an21 od22 an22 od23 an23 od24 an24 od25 an25 : Option Addr} {sl0 sl1 sl2 sl3 sl4 sl5 sl6 sl7 sl8 sl9 sl10 sl11 sl12 sl13 sl14 sl15 sl16 sl17 sl18 sl19 sl20 sl21 sl22 sl23 sl24 sl25 : Array (Option Value)} {oc0 kV0 dc0 pm0 cd0 ct0 oc1 kV1 dc1 pm1 cd1 ct1 oc2 kV2 dc2 pm2 cd2 ct2 oc3 kV3 dc3 pm3 cd3 ct3 oc4 kV4 dc4 pm4 cd4 ct4 oc5 kV5 dc5 pm5 cd5 ct5 oc6 kV6 dc6 pm6 cd6 ct6 oc7 kV7 dc7 pm7 cd7 ct7 oc8 kV8 dc8 pm8 cd8 ct8 oc9 kV9 dc9 pm9 cd9 ct9 oc10 kV10 dc10 pm10 cd10 ct10 oc11 kV11 dc11 pm11 cd11 ct11 oc12 kV12 dc12 pm12 cd12 ct12 oc13 kV13 dc13 pm13 cd13 ct13 oc14 kV14 dc14 pm14 cd14 ct14 oc15 kV15 dc15 pm15 cd15 ct15 oc16 kV16 dc16 pm16 cd16 ct16 oc17 kV17 dc17 pm17 cd17 ct17 oc18 kV18 dc18 pm18 cd18 ct18 oc19 kV19 dc19 pm19 cd19 ct19 oc20 kV20 dc20 pm20 cd20 ct20 oc21 kV21 dc21 pm21 cd21 ct21 oc22 kV22 dc22 pm22 cd22 ct22 oc23 kV23 dc23 pm23 cd23 ct23 oc24 kV24 dc24 pm24 cd24 ct24 oc25 kV25 dc25 pm25 cd25 ct25 : Value}
    (a0 : PySem.W.nsIn K mainGlobals "euclid" = some (some (.ref f0))) (l0 : K.lookup f0 = some ⟨oc0, od0, .func (PySem.W.fnOf "euclid" "euclid" (defArgs s_euclid) (defBody s_euclid) (defScope s_euclid) .none kV0 dc0 pm0 an0 cd0 ct0), sl0⟩) (c0 : PySem.W.codeIn K cd0 "euclid" = true) (k0 : PySem.W.keepIn K (.ref f0) = true)
    (a1 : PySem.W.nsIn K mainGlobals "turned_on" = some (some (.ref f1))) (l1 : K.lookup f1 = some ⟨oc1, od1, .func (PySem.W.fnOf "turned_on" "turned_on" (defArgs s_turned_on) (defBody s_turned_on) (defScope s_turned_on) .none kV1 dc1 pm1 an1 cd1 ct1), sl1⟩) (c1 : PySem.W.codeIn K cd1 "turned_on" = true) (k1 : PySem.W.keepIn K (.ref f1) = true)
    (a2 : PySem.W.nsIn K mainGlobals "next_turn" = some (some (.ref f2))) (l2 : K.lookup f2 = some ⟨oc2, od2, .func (PySem.W.fnOf "next_turn" "next_turn" (defArgs s_next_turn) (defBody s_next_turn) (defScope s_next_turn) .none kV2 dc2 pm2 an2 cd2 ct2), sl2⟩) (c2 : PySem.W.codeIn K cd2 "next_turn" = true) (k2 : PySem.W.keepIn K (.ref f2) = true)
    (a3 : PySem.W.nsIn K mainGlobals "sure_turn" = some (some (.ref f3))) (l3 : K.lookup f3 = some ⟨oc3, od3, .func (PySem.W.fnOf "sure_turn" "sure_turn" (defArgs s_sure_turn) (defBody s_sure_turn) (defScope s_sure_turn) .none kV3 dc3 pm3 an3 cd3 ct3), sl3⟩) (c3 : PySem.W.codeIn K cd3 "sure_turn" = true) (k3 : PySem.W.keepIn K (.ref f3) = true)
    (a4 : PySem.W.nsIn K mainGlobals "parts" = some (some (.ref f4))) (l4 : K.lookup f4 = some ⟨oc4, od4, .func (PySem.W.fnOf "parts" "parts" (defArgs s_parts) (defBody s_parts) (defScope s_parts) .none kV4 dc4 pm4 an4 cd4 ct4), sl4⟩) (c4 : PySem.W.codeIn K cd4 "parts" = true) (k4 : PySem.W.keepIn K (.ref f4) = true)
    (a5 : PySem.W.nsIn K mainGlobals "prime_power" = some (some (.ref f5))) (l5 : K.lookup f5 = some ⟨oc5, od5, .func (PySem.W.fnOf "prime_power" "prime_power" (defArgs s_prime_power) (defBody s_prime_power) (defScope s_prime_power) .none kV5 dc5 pm5 an5 cd5 ct5), sl5⟩) (c5 : PySem.W.codeIn K cd5 "prime_power" = true) (k5 : PySem.W.keepIn K (.ref f5) = true)
    (a6 : PySem.W.nsIn K mainGlobals "back" = some (some (.ref f6))) (l6 : K.lookup f6 = some ⟨oc6, od6, .func (PySem.W.fnOf "back" "back" (defArgs s_back) (defBody s_back) (defScope s_back) .none kV6 dc6 pm6 an6 cd6 ct6), sl6⟩) (c6 : PySem.W.codeIn K cd6 "back" = true) (k6 : PySem.W.keepIn K (.ref f6) = true)
    (a7 : PySem.W.nsIn K mainGlobals "laid" = some (some (.ref f7))) (l7 : K.lookup f7 = some ⟨oc7, od7, .func (PySem.W.fnOf "laid" "laid" (defArgs s_laid) (defBody s_laid) (defScope s_laid) .none kV7 dc7 pm7 an7 cd7 ct7), sl7⟩) (c7 : PySem.W.codeIn K cd7 "laid" = true) (k7 : PySem.W.keepIn K (.ref f7) = true)
    (a8 : PySem.W.nsIn K mainGlobals "lay_ring" = some (some (.ref f8))) (l8 : K.lookup f8 = some ⟨oc8, od8, .func (PySem.W.fnOf "lay_ring" "lay_ring" (defArgs s_lay_ring) (defBody s_lay_ring) (defScope s_lay_ring) .none kV8 dc8 pm8 an8 cd8 ct8), sl8⟩) (c8 : PySem.W.codeIn K cd8 "lay_ring" = true) (k8 : PySem.W.keepIn K (.ref f8) = true)
    (a9 : PySem.W.nsIn K mainGlobals "ring_holes" = some (some (.ref f9))) (l9 : K.lookup f9 = some ⟨oc9, od9, .func (PySem.W.fnOf "ring_holes" "ring_holes" (defArgs s_ring_holes) (defBody s_ring_holes) (defScope s_ring_holes) .none kV9 dc9 pm9 an9 cd9 ct9), sl9⟩) (c9 : PySem.W.codeIn K cd9 "ring_holes" = true) (k9 : PySem.W.keepIn K (.ref f9) = true)
    (a10 : PySem.W.nsIn K mainGlobals "prime_sum" = some (some (.ref f10))) (l10 : K.lookup f10 = some ⟨oc10, od10, .func (PySem.W.fnOf "prime_sum" "prime_sum" (defArgs s_prime_sum) (defBody s_prime_sum) (defScope s_prime_sum) .none kV10 dc10 pm10 an10 cd10 ct10), sl10⟩) (c10 : PySem.W.codeIn K cd10 "prime_sum" = true) (k10 : PySem.W.keepIn K (.ref f10) = true)
    (a11 : PySem.W.nsIn K mainGlobals "few_primes" = some (some (.ref f11))) (l11 : K.lookup f11 = some ⟨oc11, od11, .func (PySem.W.fnOf "few_primes" "few_primes" (defArgs s_few_primes) (defBody s_few_primes) (defScope s_few_primes) .none kV11 dc11 pm11 an11 cd11 ct11), sl11⟩) (c11 : PySem.W.codeIn K cd11 "few_primes" = true) (k11 : PySem.W.keepIn K (.ref f11) = true)
    (a12 : PySem.W.nsIn K mainGlobals "one_prime_sum" = some (some (.ref f12))) (l12 : K.lookup f12 = some ⟨oc12, od12, .func (PySem.W.fnOf "one_prime_sum" "one_prime_sum" (defArgs s_one_prime_sum) (defBody s_one_prime_sum) (defScope s_one_prime_sum) .none kV12 dc12 pm12 an12 cd12 ct12), sl12⟩) (c12 : PySem.W.codeIn K cd12 "one_prime_sum" = true) (k12 : PySem.W.keepIn K (.ref f12) = true)
    (a13 : PySem.W.nsIn K mainGlobals "setting" = some (some (.ref f13))) (l13 : K.lookup f13 = some ⟨oc13, od13, .func (PySem.W.fnOf "setting" "setting" (defArgs s_setting) (defBody s_setting) (defScope s_setting) .none kV13 dc13 pm13 an13 cd13 ct13), sl13⟩) (c13 : PySem.W.codeIn K cd13 "setting" = true) (k13 : PySem.W.keepIn K (.ref f13) = true)
    (a14 : PySem.W.nsIn K mainGlobals "ring_starts" = some (some (.ref f14))) (l14 : K.lookup f14 = some ⟨oc14, od14, .func (PySem.W.fnOf "ring_starts" "ring_starts" (defArgs s_ring_starts) (defBody s_ring_starts) (defScope s_ring_starts) .none kV14 dc14 pm14 an14 cd14 ct14), sl14⟩) (c14 : PySem.W.codeIn K cd14 "ring_starts" = true) (k14 : PySem.W.keepIn K (.ref f14) = true)
    (a15 : PySem.W.nsIn K mainGlobals "crossing_last" = some (some (.ref f15))) (l15 : K.lookup f15 = some ⟨oc15, od15, .func (PySem.W.fnOf "crossing_last" "crossing_last" (defArgs s_crossing_last) (defBody s_crossing_last) (defScope s_crossing_last) .none kV15 dc15 pm15 an15 cd15 ct15), sl15⟩) (c15 : PySem.W.codeIn K cd15 "crossing_last" = true) (k15 : PySem.W.keepIn K (.ref f15) = true)
    (a16 : PySem.W.nsIn K mainGlobals "_law_cell_at" = some (some (.ref f16))) (l16 : K.lookup f16 = some ⟨oc16, od16, .func (PySem.W.fnOf "_law_cell_at" "_law_cell_at" (defArgs s_law_cell_at) (defBody s_law_cell_at) (defScope s_law_cell_at) .none kV16 dc16 pm16 an16 cd16 ct16), sl16⟩) (c16 : PySem.W.codeIn K cd16 "_law_cell_at" = true) (k16 : PySem.W.keepIn K (.ref f16) = true)
    (a17 : PySem.W.nsIn K mainGlobals "_law_whole" = some (some (.ref f17))) (l17 : K.lookup f17 = some ⟨oc17, od17, .func (PySem.W.fnOf "_law_whole" "_law_whole" (defArgs s_law_whole) (defBody s_law_whole) (defScope s_law_whole) .none kV17 dc17 pm17 an17 cd17 ct17), sl17⟩) (c17 : PySem.W.codeIn K cd17 "_law_whole" = true) (k17 : PySem.W.keepIn K (.ref f17) = true)
    (a18 : PySem.W.nsIn K mainGlobals "_law_numbers" = some (some (.ref f18))) (l18 : K.lookup f18 = some ⟨oc18, od18, .func (PySem.W.fnOf "_law_numbers" "_law_numbers" (defArgs s_law_numbers) (defBody s_law_numbers) (defScope s_law_numbers) .none kV18 dc18 pm18 an18 cd18 ct18), sl18⟩) (c18 : PySem.W.codeIn K cd18 "_law_numbers" = true) (k18 : PySem.W.keepIn K (.ref f18) = true)
    (a19 : PySem.W.nsIn K mainGlobals "_law_primes" = some (some (.ref f19))) (l19 : K.lookup f19 = some ⟨oc19, od19, .func (PySem.W.fnOf "_law_primes" "_law_primes" (defArgs s_law_primes) (defBody s_law_primes) (defScope s_law_primes) .none kV19 dc19 pm19 an19 cd19 ct19), sl19⟩) (c19 : PySem.W.codeIn K cd19 "_law_primes" = true) (k19 : PySem.W.keepIn K (.ref f19) = true)
    (a20 : PySem.W.nsIn K mainGlobals "_law_wheel" = some (some (.ref f20))) (l20 : K.lookup f20 = some ⟨oc20, od20, .func (PySem.W.fnOf "_law_wheel" "_law_wheel" (defArgs s_law_wheel) (defBody s_law_wheel) (defScope s_law_wheel) .none kV20 dc20 pm20 an20 cd20 ct20), sl20⟩) (c20 : PySem.W.codeIn K cd20 "_law_wheel" = true) (k20 : PySem.W.keepIn K (.ref f20) = true)
    (a21 : PySem.W.nsIn K mainGlobals "_law_can" = some (some (.ref f21))) (l21 : K.lookup f21 = some ⟨oc21, od21, .func (PySem.W.fnOf "_law_can" "_law_can" (defArgs s_law_can) (defBody s_law_can) (defScope s_law_can) .none kV21 dc21 pm21 an21 cd21 ct21), sl21⟩) (c21 : PySem.W.codeIn K cd21 "_law_can" = true) (k21 : PySem.W.keepIn K (.ref f21) = true)
    (a22 : PySem.W.nsIn K mainGlobals "_law_set" = some (some (.ref f22))) (l22 : K.lookup f22 = some ⟨oc22, od22, .func (PySem.W.fnOf "_law_set" "_law_set" (defArgs s_law_set) (defBody s_law_set) (defScope s_law_set) .none kV22 dc22 pm22 an22 cd22 ct22), sl22⟩) (c22 : PySem.W.codeIn K cd22 "_law_set" = true) (k22 : PySem.W.keepIn K (.ref f22) = true)
    (a23 : PySem.W.nsIn K mainGlobals "_law_drawn" = some (some (.ref f23))) (l23 : K.lookup f23 = some ⟨oc23, od23, .func (PySem.W.fnOf "_law_drawn" "_law_drawn" (defArgs s_law_drawn) (defBody s_law_drawn) (defScope s_law_drawn) .none kV23 dc23 pm23 an23 cd23 ct23), sl23⟩) (c23 : PySem.W.codeIn K cd23 "_law_drawn" = true) (k23 : PySem.W.keepIn K (.ref f23) = true)
    (a24 : PySem.W.nsIn K mainGlobals "_law_many" = some (some (.ref f24))) (l24 : K.lookup f24 = some ⟨oc24, od24, .func (PySem.W.fnOf "_law_many" "_law_many" (defArgs s_law_many) (defBody s_law_many) (defScope s_law_many) .none kV24 dc24 pm24 an24 cd24 ct24), sl24⟩) (c24 : PySem.W.codeIn K cd24 "_law_many" = true) (k24 : PySem.W.keepIn K (.ref f24) = true)
    (a25 : PySem.W.nsIn K mainGlobals "law" = some (some (.ref f25))) (l25 : K.lookup f25 = some ⟨oc25, od25, .func (PySem.W.fnOf "law" "law" (defArgs s_law) (defBody s_law) (defScope s_law) .none kV25 dc25 pm25 an25 cd25 ct25), sl25⟩) (c25 : PySem.W.codeIn K cd25 "law" = true) (k25 : PySem.W.keepIn K (.ref f25) = true)
    (z0 : PySem.W.nsIn K mainGlobals "len" = some none)
    (z1 : PySem.W.nsIn K mainGlobals "isinstance" = some none)
    (z2 : PySem.W.nsIn K mainGlobals "int" = some none)
    (z3 : PySem.W.nsIn K mainGlobals "bool" = some none)
    (z4 : PySem.W.nsIn K mainGlobals "list" = some none)
    (z5 : PySem.W.nsIn K mainGlobals "range" = some none)
    (z6 : PySem.W.nsIn K mainGlobals "min" = some none)
    (z7 : PySem.W.nsIn K mainGlobals "zip" = some none)
    (z8 : PySem.W.nsIn K mainGlobals "all" = some none)
    (z9 : PySem.W.nsIn K mainGlobals "sum" = some none)
    {t_LEAD_BITS : Tok} (ag_LEAD_BITS : PySem.W.nsIn K mainGlobals "LEAD_BITS" = some (some (.int 128 t_LEAD_BITS)))
    : ∃ fd : FuncData, (∀ (s : Shared) (v : Value), BindsTo s fd ⟨[v], []⟩ [("script", v)]) ∧ ∀ base : Heap, K.In base → base.Ns mainGlobals mg → FnOk l.prog w K mg base CX0 6 fa fd ["script"] (spLaw K) := by
  have e := hfa.symm.trans (PySem.W.mg_of X G a25)
  cases e
  have F0 := fun_mk (st := s_euclid) l0 c0 k0
  have F1 := fun_mk (st := s_turned_on) l1 c1 k1
  have F2 := fun_mk (st := s_next_turn) l2 c2 k2
  have F3 := fun_mk (st := s_sure_turn) l3 c3 k3
  have F4 := fun_mk (st := s_parts) l4 c4 k4
  have F5 := fun_mk (st := s_prime_power) l5 c5 k5
  have F6 := fun_mk (st := s_back) l6 c6 k6
  have F7 := fun_mk (st := s_laid) l7 c7 k7
  have F8 := fun_mk (st := s_lay_ring) l8 c8 k8
  have F9 := fun_mk (st := s_ring_holes) l9 c9 k9
  have F10 := fun_mk (st := s_prime_sum) l10 c10 k10
  have F11 := fun_mk (st := s_few_primes) l11 c11 k11
  have F12 := fun_mk (st := s_one_prime_sum) l12 c12 k12
  have F13 := fun_mk (st := s_setting) l13 c13 k13
  have F14 := fun_mk (st := s_ring_starts) l14 c14 k14
  have F15 := fun_mk (st := s_crossing_last) l15 c15 k15
  have F16 := fun_mk (st := s_law_cell_at) l16 c16 k16
  have F17 := fun_mk (st := s_law_whole) l17 c17 k17
  have F18 := fun_mk (st := s_law_numbers) l18 c18 k18
  have F19 := fun_mk (st := s_law_primes) l19 c19 k19
  have F20 := fun_mk (st := s_law_wheel) l20 c20 k20
  have F21 := fun_mk (st := s_law_can) l21 c21 k21
  have F22 := fun_mk (st := s_law_set) l22 c22 k22
  have F23 := fun_mk (st := s_law_drawn) l23 c23 k23
  have F24 := fun_mk (st := s_law_many) l24 c24 k24
  have F25 := fun_mk (st := s_law) l25 c25 k25
  have b0 := F0.binds (ps := ["one", "other", "bits"]) fun _ _ _ _ _ _ us hl => match us, hl with | [_, _, _], _ => rfl
  have b1 := F1.binds (ps := ["pair", "turn"]) fun _ _ _ _ _ _ us hl => match us, hl with | [_, _], _ => rfl
  have b2 := F2.binds (ps := ["rests", "bits"]) fun _ _ _ _ _ _ us hl => match us, hl with | [_, _], _ => rfl
  have b3 := F3.binds (ps := ["rest", "later_rest"]) fun _ _ _ _ _ _ us hl => match us, hl with | [_, _], _ => rfl
  have b4 := F4.binds (ps := ["n"]) fun _ _ _ _ _ _ us hl => match us, hl with | [_], _ => rfl
  have b5 := F5.binds (ps := ["n", "p"]) fun _ _ _ _ _ _ us hl => match us, hl with | [_, _], _ => rfl
  have b6 := F6.binds (ps := ["step", "n"]) fun _ _ _ _ _ _ us hl => match us, hl with | [_, _], _ => rfl
  have b7 := F7.binds (ps := ["n", "rows"]) fun _ _ _ _ _ _ us hl => match us, hl with | [_, _], _ => rfl
  have b8 := F8.binds (ps := ["load", "p", "hole", "many"]) fun _ _ _ _ _ _ us hl => match us, hl with | [_, _, _, _], _ => rfl
  have b9 := F9.binds (ps := ["n", "p", "hole"]) fun _ _ _ _ _ _ us hl => match us, hl with | [_, _, _], _ => rfl
  have b10 := F10.binds (ps := ["n", "many"]) fun _ _ _ _ _ _ us hl => match us, hl with | [_, _], _ => rfl
  have b11 := F11.binds (ps := ["n"]) fun _ _ _ _ _ _ us hl => match us, hl with | [_], _ => rfl
  have b12 := F12.binds (ps := ["primes", "many"]) fun _ _ _ _ _ _ us hl => match us, hl with | [_, _], _ => rfl
  have b13 := F13.binds (ps := ["n", "many"]) fun _ _ _ _ _ _ us hl => match us, hl with | [_, _], _ => rfl
  have b14 := F14.binds (ps := ["n"]) fun _ _ _ _ _ _ us hl => match us, hl with | [_], _ => rfl
  have b15 := F15.binds (ps := ["n", "small", "great"]) fun _ _ _ _ _ _ us hl => match us, hl with | [_, _, _], _ => rfl
  have b16 := F16.binds (ps := ["script", "k"]) fun _ _ _ _ _ _ us hl => match us, hl with | [_, _], _ => rfl
  have b17 := F17.binds (ps := ["found"]) fun _ _ _ _ _ _ us hl => match us, hl with | [_], _ => rfl
  have b18 := F18.binds (ps := ["found", "many"]) fun _ _ _ _ _ _ us hl => match us, hl with | [_, _], _ => rfl
  have b19 := F19.binds (ps := ["n"]) fun _ _ _ _ _ _ us hl => match us, hl with | [_], _ => rfl
  have b20 := F20.binds (ps := ["cell"]) fun _ _ _ _ _ _ us hl => match us, hl with | [_], _ => rfl
  have b21 := F21.binds (ps := ["primes", "many"]) fun _ _ _ _ _ _ us hl => match us, hl with | [_, _], _ => rfl
  have b22 := F22.binds (ps := ["found", "n", "many"]) fun _ _ _ _ _ _ us hl => match us, hl with | [_, _, _], _ => rfl
  have b23 := F23.binds (ps := ["cells", "many"]) fun _ _ _ _ _ _ us hl => match us, hl with | [_, _], _ => rfl
  have b24 := F24.binds (ps := ["n", "cell"]) fun _ _ _ _ _ _ us hl => match us, hl with | [_, _], _ => rfl
  have T : Txt K mg t_LEAD_BITS := ⟨PySem.W.mg_of X G ag_LEAD_BITS, ⟨_, _, F0, b0, PySem.W.mg_of X G a0⟩, ⟨_, _, F1, b1, PySem.W.mg_of X G a1⟩, ⟨_, _, F2, b2, PySem.W.mg_of X G a2⟩, ⟨_, _, F3, b3, PySem.W.mg_of X G a3⟩, ⟨_, _, F4, b4, PySem.W.mg_of X G a4⟩, ⟨_, _, F5, b5, PySem.W.mg_of X G a5⟩, ⟨_, _, F6, b6, PySem.W.mg_of X G a6⟩, ⟨_, _, F7, b7, PySem.W.mg_of X G a7⟩, ⟨_, _, F8, b8, PySem.W.mg_of X G a8⟩, ⟨_, _, F9, b9, PySem.W.mg_of X G a9⟩, ⟨_, _, F10, b10, PySem.W.mg_of X G a10⟩, ⟨_, _, F11, b11, PySem.W.mg_of X G a11⟩, ⟨_, _, F12, b12, PySem.W.mg_of X G a12⟩, ⟨_, _, F13, b13, PySem.W.mg_of X G a13⟩, ⟨_, _, F14, b14, PySem.W.mg_of X G a14⟩, ⟨_, _, F15, b15, PySem.W.mg_of X G a15⟩, ⟨_, _, F16, b16, PySem.W.mg_of X G a16⟩, ⟨_, _, F17, b17, PySem.W.mg_of X G a17⟩, ⟨_, _, F18, b18, PySem.W.mg_of X G a18⟩, ⟨_, _, F19, b19, PySem.W.mg_of X G a19⟩, ⟨_, _, F20, b20, PySem.W.mg_of X G a20⟩, ⟨_, _, F21, b21, PySem.W.mg_of X G a21⟩, ⟨_, _, F22, b22, PySem.W.mg_of X G a22⟩, ⟨_, _, F23, b23, PySem.W.mg_of X G a23⟩, ⟨_, _, F24, b24, PySem.W.mg_of X G a24⟩, PySem.W.mg_none_of X G z0, PySem.W.mg_none_of X G z1, PySem.W.mg_none_of X G z2, PySem.W.mg_none_of X G z3, PySem.W.mg_none_of X G z4, PySem.W.mg_none_of X G z5, PySem.W.mg_none_of X G z6, PySem.W.mg_none_of X G z7, PySem.W.mg_none_of X G z8, PySem.W.mg_none_of X G z9⟩
  exact ⟨_, fun s v => .of_eq rfl, fun base _ _ => ok_law T F25⟩
theorem walk {l : PySem.W.OpenLaw} {q : Program} {loose : List Str} {XP : (Str → Option Value) → Heap → Prop} {YP : World → Heap → Prop} {d : DefRec} {K : Params → PySem.W.Frag} (hn : l.most = some 63) (hdf : d.params.defaults = [])
    (hY : ∀ (w : World) (h : Heap), YP w h → (K w.params).In h)
    (F : ∀ (w : World) (mg : Str → Option Value) (fa : Addr) (h : Heap), (K w.params).In h → h.Ns mainGlobals mg → mg d.name = some (.ref fa) →
      ∃ fd : FuncData, (∀ (s : Shared) (u : Value), BindsTo s fd ⟨[u], []⟩ [("script", u)]) ∧ ∀ base : Heap, (K w.params).In base → base.Ns mainGlobals mg → FnOk l.prog w (K w.params) mg base CX0 6 fa fd ["script"] (spLaw (K w.params))) :
    PySem.W.WalkO q loose XP YP l.row.toRowW d [] (fun f vs => PySem.call f vs) :=
  L2.walk_of (n := 63) (k := 6) (x := "script") (CX := fun _ => CX0) (sp := fun w => spLaw (K w.params)) hn (by decide) hdf ⟨rfl, by decide, by decide⟩ hY F (fun _ _ a ns hl _ hS => ⟨a, ns, rfl, hS, hl, fun _ => rfl⟩) fun _ _ _ _ _ z => z
end K46
open PySem PySem.W PyProof.Rows
set_option maxRecDepth 100000 in
set_option maxHeartbeats 0 in
theorem PySem.Challenge.cw_evenhub_k46_whole_settings_holds : PySem.Challenge.rw_evenhub_k46_whole_settings.Holds := by
  w_on; o_law; k_head; (case hw => w_witness2)
  k_fill
  refine K46.walk (l := PySem.Challenge.rw_evenhub_k46_whole_settings) rfl rfl (fun w h Y => PySem.W.kIn_of Y) ?F
  case F =>
    intro w mg fa h KX G hmg
    refine' K46.all_mk KX G hmg ?a0 ?l0 ?c0 ?k0 ?a1 ?l1 ?c1 ?k1 ?a2 ?l2 ?c2 ?k2 ?a3 ?l3 ?c3 ?k3 ?a4 ?l4 ?c4 ?k4 ?a5 ?l5 ?c5 ?k5 ?a6 ?l6 ?c6 ?k6 ?a7 ?l7 ?c7 ?k7 ?a8 ?l8 ?c8 ?k8 ?a9 ?l9 ?c9 ?k9 ?a10 ?l10 ?c10 ?k10 ?a11 ?l11 ?c11 ?k11 ?a12 ?l12 ?c12 ?k12 ?a13 ?l13 ?c13 ?k13 ?a14 ?l14 ?c14 ?k14 ?a15 ?l15 ?c15 ?k15 ?a16 ?l16 ?c16 ?k16 ?a17 ?l17 ?c17 ?k17 ?a18 ?l18 ?c18 ?k18 ?a19 ?l19 ?c19 ?k19 ?a20 ?l20 ?c20 ?k20 ?a21 ?l21 ?c21 ?k21 ?a22 ?l22 ?c22 ?k22 ?a23 ?l23 ?c23 ?k23 ?a24 ?l24 ?c24 ?k24 ?a25 ?l25 ?c25 ?k25 ?z0 ?z1 ?z2 ?z3 ?z4 ?z5 ?z6 ?z7 ?z8 ?z9 ?ag_LEAD_BITS
    (case a0 => k_is); (case l0 => k_is); (case c0 => k_is); (case k0 => k_is)
    (case a1 => k_is); (case l1 => k_is); (case c1 => k_is); (case k1 => k_is)
    (case a2 => k_is); (case l2 => k_is); (case c2 => k_is); (case k2 => k_is)
    (case a3 => k_is); (case l3 => k_is); (case c3 => k_is); (case k3 => k_is)
    (case a4 => k_is); (case l4 => k_is); (case c4 => k_is); (case k4 => k_is)
    (case a5 => k_is); (case l5 => k_is); (case c5 => k_is); (case k5 => k_is)
    (case a6 => k_is); (case l6 => k_is); (case c6 => k_is); (case k6 => k_is)
    (case a7 => k_is); (case l7 => k_is); (case c7 => k_is); (case k7 => k_is)
    (case a8 => k_is); (case l8 => k_is); (case c8 => k_is); (case k8 => k_is)
    (case a9 => k_is); (case l9 => k_is); (case c9 => k_is); (case k9 => k_is)
    (case a10 => k_is); (case l10 => k_is); (case c10 => k_is); (case k10 => k_is)
    (case a11 => k_is); (case l11 => k_is); (case c11 => k_is); (case k11 => k_is)
    (case a12 => k_is); (case l12 => k_is); (case c12 => k_is); (case k12 => k_is)
    (case a13 => k_is); (case l13 => k_is); (case c13 => k_is); (case k13 => k_is)
    (case a14 => k_is); (case l14 => k_is); (case c14 => k_is); (case k14 => k_is)
    (case a15 => k_is); (case l15 => k_is); (case c15 => k_is); (case k15 => k_is)
    (case a16 => k_is); (case l16 => k_is); (case c16 => k_is); (case k16 => k_is)
    (case a17 => k_is); (case l17 => k_is); (case c17 => k_is); (case k17 => k_is)
    (case a18 => k_is); (case l18 => k_is); (case c18 => k_is); (case k18 => k_is)
    (case a19 => k_is); (case l19 => k_is); (case c19 => k_is); (case k19 => k_is)
    (case a20 => k_is); (case l20 => k_is); (case c20 => k_is); (case k20 => k_is)
    (case a21 => k_is); (case l21 => k_is); (case c21 => k_is); (case k21 => k_is)
    (case a22 => k_is); (case l22 => k_is); (case c22 => k_is); (case k22 => k_is)
    (case a23 => k_is); (case l23 => k_is); (case c23 => k_is); (case k23 => k_is)
    (case a24 => k_is); (case l24 => k_is); (case c24 => k_is); (case k24 => k_is)
    (case a25 => k_is); (case l25 => k_is); (case c25 => k_is); (case k25 => k_is)
    (case z0 => k_is)
    (case z1 => k_is)
    (case z2 => k_is)
    (case z3 => k_is)
    (case z4 => k_is)
    (case z5 => k_is)
    (case z6 => k_is)
    (case z7 => k_is)
    (case z8 => k_is)
    (case z9 => k_is)
    (case ag_LEAD_BITS => k_is)
#print axioms PySem.Challenge.cw_evenhub_k46_whole_settings_holds
