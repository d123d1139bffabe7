import PyProof.Rows.All
import Wide.All
import OpenK.AllK
import Wide.FinOn
import Lean
import PyProof.EqAt
import PyProof.EqKinds
import PyProof.TupleCall
import KE.KRevIter
import PySem.Challenge.RW_evenhub_k30_papers_held
set_option Elab.async false
set_option linter.all false
set_option maxRecDepth 100000
namespace L2
open PySem PySem.Spec PyProof.Rows
abbrev Key := Sum Int Str
def keyIs : Key → Value → Bool
  | .inl k, v => Value.isInt k v
  | .inr x, v => Value.isStrOf x v
def keyH (w : World) : Key → Int
  | .inl k => hashInt k
  | .inr x => hashStr w x
theorem keyIs_shape : ∀ {k : Key} {v : Value}, keyIs k v = true → (∃ i t, k = Sum.inl i ∧ v = Value.int i t) ∨ (∃ x t, k = Sum.inr x ∧ v = Value.str x t)
  | .inl i, v, h => by
    obtain ⟨t, e⟩ := Value.isInt_shape (k := i) (v := v) h
    exact .inl ⟨i, t, rfl, e⟩
  | .inr x, v, h => by
    obtain ⟨t, e⟩ := Value.isStrOf_shape (x := x) (v := v) h
    exact .inr ⟨x, t, rfl, e⟩
theorem keyIs_int (i : Int) (t : Tok) : keyIs (.inl i) (.int i t) = true := by simp [keyIs, Value.isInt]
theorem keyIs_str (x : Str) (t : Tok) : keyIs (.inr x) (.str x t) = true := by simp [keyIs, Value.isStrOf]
theorem key_ll (a b : Int) : decide ((Sum.inl a : Key) = Sum.inl b) = (a == b) := by
  by_cases e : a = b
  · subst e; simp
  · have h : ¬ (Sum.inl a : Key) = Sum.inl b := fun q => e (Sum.inl.inj q)
    rw [decide_eq_false h]
    exact (beq_eq_false_iff_ne.mpr e).symm
theorem key_rr (a b : Str) : decide ((Sum.inr a : Key) = Sum.inr b) = decide (a = b) := by
  by_cases e : a = b
  · subst e; simp
  · have h : ¬ (Sum.inr a : Key) = Sum.inr b := fun q => e (Sum.inr.inj q)
    rw [decide_eq_false h, decide_eq_false e]
theorem key_lr (a : Int) (b : Str) : decide ((Sum.inl a : Key) = Sum.inr b) = false := decide_eq_false (fun q => nomatch q)
theorem key_rl (a : Str) (b : Int) : decide ((Sum.inr a : Key) = Sum.inl b) = false := decide_eq_false (fun q => nomatch q)

def mixKind (prog : Program) (w : World) : PySem.KeyKind prog w Key where
  is := keyIs
  hash := keyH w
  inj := fun v a b ha hb => by
    rcases keyIs_shape ha with ⟨i, t, rfl, rfl⟩ | ⟨x, t, rfl, rfl⟩
    · rcases keyIs_shape hb with ⟨j, u, rfl, e⟩ | ⟨y, u, rfl, e⟩
      · injection e with e1 _; rw [e1]
      · exact nomatch e
    · rcases keyIs_shape hb with ⟨j, u, rfl, e⟩ | ⟨y, u, rfl, e⟩
      · exact nomatch e
      · injection e with e1 _; rw [e1]
  byValue := fun k v h => by
    rcases keyIs_shape h with ⟨i, t, rfl, rfl⟩ | ⟨x, t, rfl, rfl⟩ <;> rfl
  pyHash := fun hv h => by
    rcases keyIs_shape hv with ⟨i, t, rfl, rfl⟩ | ⟨x, t, rfl, rfl⟩
    · exact wpAny_pyHash_int h
    · exact wpAny_pyHash_str h
  eqBool := fun hu hv h => by
    rcases keyIs_shape hu with ⟨i, t, rfl, rfl⟩ | ⟨x, t, rfl, rfl⟩
    · rcases keyIs_shape hv with ⟨j, u, rfl, rfl⟩ | ⟨y, u, rfl, rfl⟩
      · rw [key_ll] at h; exact wpAny_eqBool_int h
      · rw [key_lr] at h; exact SeqAt.EqAt.int_str i t y u _ _ _ _ h
    · rcases keyIs_shape hv with ⟨j, u, rfl, rfl⟩ | ⟨y, u, rfl, rfl⟩
      · rw [key_rl] at h; exact SeqAt.EqAt.str_int x t j u _ _ _ _ h
      · rw [key_rr] at h; exact wpAny_eqBool_str h
  «strs» := fun k x t v h => by
    rcases keyIs_shape h with ⟨i, u, rfl, e⟩ | ⟨y, u, rfl, e⟩
    · exact nomatch e
    · injection e with e1 _
      subst e1
      cases v <;> rfl

theorem mixKind_int (prog : Program) (w : World) (i : Int) (t : Tok) : (mixKind prog w).is (.inl i) (.int i t) = true := keyIs_int i t
theorem mixKind_str (prog : Program) (w : World) (x : Str) (t : Tok) : (mixKind prog w).is (.inr x) (.str x t) = true := keyIs_str x t
end L2
namespace L2
open PySem PySem.Spec PyProof.Rows
inductive V where
  | non | bl (b : Bool) | int (i : Int) | str (x : Str) | byt (b : Array UInt8) | flt (b : UInt64) | ref (a : Addr) | ty (n : String)
  deriving DecidableEq

def RelV : V → Value → Prop
  | .non, u => u = Value.none
  | .bl b, u => u = Value.bool b
  | .int i, u => ∃ t, u = Value.int i t
  | .str x, u => ∃ t, u = Value.str x t
  | .byt b, u => ∃ t, u = Value.bytes b t
  | .flt b, u => ∃ t, u = Value.float b t
  | .ref a, u => u = Value.ref a
  | .ty n, u => u = Value.type n

abbrev Vals : List V → List Value → Prop := Paired RelV
theorem Vals.length {xs : List V} {us : List Value} (r : Vals xs us) : xs.length = us.length := Paired.length r
theorem Vals.get : ∀ {xs : List V} {us : List Value} {i : Nat} {x : V}, Vals xs us → xs[i]? = some x → ∃ u, us[i]? = some u ∧ RelV x u
  | _, _, _, _, .nil, e => by simp at e
  | _, _, 0, _, .cons r _, e => by simp at e; subst e; exact ⟨_, rfl, r⟩
  | _, _, i + 1, x, .cons _ t, e => by
    obtain ⟨u, h1, h2⟩ := Vals.get (i := i) (x := x) t (by simpa using e)
    exact ⟨u, by simpa using h1, h2⟩
theorem Vals.set {x : V} {u : Value} (r : RelV x u) : ∀ {xs : List V} {us : List Value} (i : Nat), Vals xs us → Vals (xs.set i x) (us.set i u)
  | _, _, _, .nil => .nil
  | _, _, 0, .cons _ t => .cons r t
  | _, _, i + 1, .cons q t => .cons q (Vals.set r i t)
theorem Vals.append : ∀ {xs ys : List V} {us ws : List Value}, Vals xs us → Vals ys ws → Vals (xs ++ ys) (us ++ ws)
  | _, _, _, _, .nil, s => s
  | _, _, _, _, .cons r t, s => .cons r (Vals.append t s)
theorem Vals.take : ∀ {xs : List V} {us : List Value} (n : Nat), Vals xs us → Vals (xs.take n) (us.take n)
  | _, _, 0, _ => .nil
  | _, _, _ + 1, .nil => .nil
  | _, _, n + 1, .cons r t => .cons r (Vals.take n t)
theorem Vals.drop : ∀ {xs : List V} {us : List Value} (n : Nat), Vals xs us → Vals (xs.drop n) (us.drop n)
  | _, _, 0, r => r
  | _, _, _ + 1, .nil => .nil
  | _, _, n + 1, .cons _ t => Vals.drop n t
def RelO : Option V → Option Value → Prop
  | some v, some u => RelV v u
  | none, none => True
  | _, _ => False
def KV {κ : Type} : List (κ × V) → List (κ × Value) → Prop := Paired fun (p : κ × V) (q : κ × Value) => p.1 = q.1 ∧ RelV p.2 q.2

def kV : Key → V
  | .inl i => .int i
  | .inr x => .str x

inductive HO where
  /-- a list -/
  | lst (xs : List V)
  /-- a tuple (never changes) -/
  | tup (xs : List V)
  /-- a dict whose keys are ints and texts; one whose keys are tuples of ints and texts (the empty one is both) -/
  | dK (kvs : List (Key × V)) | dT (kvs : List (List Key × V))
  /-- a set of ints: its members, its size -/
  | set (S : Int → Bool) (n : Nat)
  /-- an instance of the class at C, its dict at dx, its attributes -/
  | ins (C dx : Addr) (fs : List (Str × V))
  /-- the dict of the instance at x -/
  | own (x : Addr)
  /-- the dict of an exception -/
  | xd (fs : List (Str × V))
  /-- a bound method, f of x -/
  | met (f x : Addr)
  /-- a range object lo, lo + 1, .. below hi -/
  | rng (lo hi : Int)
  /-- a thing that is known to the object (the script; a dict while a loop walks it): read, never written while it is so -/
  | frz (o : Obj) (u : HO)
  /-- a code object's table -/
  | tbl (ps : Array Value)
  /-- any other thing, by what is true of its one object (a def of one's own: SetO a S n := HO.ext fun h => ..) -/
  | ext (φ : Heap → Prop)

abbrev Hp := Addr → Option HO
def upd (H : Hp) (a : Addr) (o : HO) : Hp := fun b => if b = a then some o else H b
theorem upd_same {H : Hp} {a : Addr} {o : HO} : upd H a o a = some o := by unfold upd; rw [if_pos rfl]
theorem upd_ne {H : Hp} {a b : Addr} {o : HO} (h : b ≠ a) : upd H a o b = H b := by unfold upd; rw [if_neg h]
theorem ne_of {H : Hp} {a b : Addr} {o u : HO} (h : H a = some o) (h' : H b = some u) (d : o ≠ u) : a ≠ b := by
  intro e; subst e; rw [h] at h'; exact d (Option.some.inj h')
theorem ne_of_none {H : Hp} {a b : Addr} {o : HO} (h : H a = some o) (h' : H b = none) : a ≠ b := by
  intro e; subst e; rw [h] at h'; cases h'

section
variable (P : Program) (w : World)
def ObjOk (H : Hp) (h : Heap) (a : Addr) : HO → Prop
  | .lst xs => xs.length ≤ sizeLine ∧ ∃ (its : List Value) (n : Nat), Vals xs its ∧ h.get? a = some { cls := .type "list", data := .seq its.toArray n }
  | .tup xs => xs.length ≤ sizeLine ∧ ∃ its : List Value, Vals xs its ∧ IsTup h a its.toArray
  | .dK kvs => kvs.length ≤ sizeLine ∧ (a == sysModules) = false ∧ ∃ vs, KV kvs vs ∧ h.DictOf (mixKind P w) a vs
  | .dT kvs => kvs.length ≤ sizeLine ∧ (a == sysModules) = false ∧ ∃ xs : List (List Key × Addr × Value),
      Paired (fun (p : List Key × V) (q : List Key × Addr × Value) => p.1 = q.1 ∧ H q.2.1 = some (.tup (p.1.map kV)) ∧ RelV p.2 q.2.2) kvs xs ∧
      ∃ o es ep, h.get? a = some o ∧ o.ExactDict ∧ o.data = .dict es ep ∧ es.toList = xs.map (entryOfKey (tupleKind (mixKind P w))) ∧ (xs.map (·.1)).Nodup
  | .set S n => h.SetOf (intKind P w) a S n
  | .ins C dx fs => H dx = some (.own a) ∧ fs.length ≤ 1000 ∧ dx ≠ a ∧ h.get? a = some (PySem.W.instObj C dx) ∧
      ∃ mA, h.Ns1 dx mA ∧ (∀ f, RelO (fs.lookup f) (mA f)) ∧ PySem.Within mA (fs.map (·.1))
  | .own _ => ∃ o, h.get? a = some o
  | .xd fs => ∃ mA, h.Ns1 a mA ∧ ∀ f, RelO (fs.lookup f) (mA f)
  | .rng lo hi => ∃ t u v, h.get? a = some { cls := .type "range", data := .fields #[.int lo t, .int hi u, .int 1 v] }
  | .frz o u => h.get? a = some o ∧ ObjOk H h a u
  | .tbl ps => h.get? a = some { cls := .none, data := .fields ps }
  | .met f x => h.get? a = some (PySem.W.methodObj (.ref f) (.ref x))
  | .ext φ => φ h ∧ (∃ o, h.get? a = some o) ∧ ∀ h1 h2 : Heap, φ h1 → (∀ o, h1.get? a = some o → h2.get? a = some o) → φ h2
def HOk (H : Hp) (h : Heap) : Prop := ∀ a o, H a = some o → ObjOk P w H h a o
end
section
variable {P : Program} {w : World} {H H' : Hp} {h h' : Heap} {a : Addr} {o : HO}
theorem ObjOk.lt (x : ObjOk P w H h a o) : a < h.objs.size := by
  cases o with
  | lst xs => obtain ⟨_, _, _, _, e⟩ := x; exact Heap.lt_size e
  | tup xs => obtain ⟨_, _, _, p⟩ := x; exact p.lt
  | dK kvs => obtain ⟨_, _, _, _, o, _, _, e, _⟩ := x; exact Heap.lt_size e
  | dT kvs => obtain ⟨_, _, _, _, o, _, _, e, _⟩ := x; exact Heap.lt_size e
  | set S n => obtain ⟨o, _, _, _, e, _⟩ := x; exact Heap.lt_size e
  | ins C dx fs => obtain ⟨_, _, _, e, _⟩ := x; exact Heap.lt_size e
  | own y => obtain ⟨_, e⟩ := x; exact Heap.lt_size e
  | xd fs => obtain ⟨_, ⟨_, _, _, e, _⟩, _⟩ := x; exact Heap.lt_size e
  | rng lo hi => obtain ⟨_, _, _, e⟩ := x; exact Heap.lt_size e
  | frz ob u => obtain ⟨e, _⟩ := x; exact Heap.lt_size e
  | tbl ps => exact Heap.lt_size (show h.get? a = some _ from x)
  | met f y => exact Heap.lt_size (show h.get? a = some _ from x)
  | ext φ => obtain ⟨_, ⟨_, e⟩, _⟩ := x; exact Heap.lt_size e
theorem Paired.mapP {α β : Type} {F G : α → β → Prop} : ∀ {l₁ : List α} {l₂ : List β}, Paired F l₁ l₂ → (∀ a b, F a b → G a b) → Paired G l₁ l₂
  | _, _, .nil, _ => .nil
  | _, _, .cons r t, f => .cons (f _ _ r) (Paired.mapP t f)
theorem ObjOk.stay (x : ObjOk P w H h a o) (k : ∀ b u, (b = a ∨ H b = some (.own a)) → h.get? b = some u → h'.get? b = some u)
    (ho : ∀ b, H b = some (.own a) → H' b = some (.own a)) (ht : ∀ b xs, H b = some (.tup xs) → H' b = some (.tup xs)) : ObjOk P w H' h' a o := by
  induction o with
  | lst xs => obtain ⟨z, its, n, r, e⟩ := x; exact ⟨z, its, n, r, k _ _ (.inl rfl) e⟩
  | tup xs => obtain ⟨z, its, r, ob, e, c⟩ := x; exact ⟨z, its, r, ob, k _ _ (.inl rfl) e, c⟩
  | dK kvs => obtain ⟨z, y, vs, r, ob, es, ep, e, c⟩ := x; exact ⟨z, y, vs, r, ob, es, ep, k _ _ (.inl rfl) e, c⟩
  | dT kvs =>
    obtain ⟨z, y, xs, r, ob, es, ep, e, c⟩ := x
    exact ⟨z, y, xs, Paired.mapP r fun p q z => ⟨z.1, ht _ _ z.2.1, z.2.2⟩, ob, es, ep, k _ _ (.inl rfl) e, c⟩
  | set S n => obtain ⟨ob, es, ep, t, e, c⟩ := x; exact ⟨ob, es, ep, t, k _ _ (.inl rfl) e, c⟩
  | ins C dx fs =>
    obtain ⟨d, z, ne, e, mA, ⟨od, es, ep, e2, c⟩, r⟩ := x
    exact ⟨ho _ d, z, ne, k _ _ (.inl rfl) e, mA, ⟨od, es, ep, k _ _ (.inr d) e2, c⟩, r⟩
  | own y => obtain ⟨ob, e⟩ := x; exact ⟨ob, k _ _ (.inl rfl) e⟩
  | xd fs => obtain ⟨mA, ⟨od, es, ep, e, c⟩, r⟩ := x; exact ⟨mA, ⟨od, es, ep, k _ _ (.inl rfl) e, c⟩, r⟩
  | rng lo hi => obtain ⟨t, u, v, e⟩ := x; exact ⟨t, u, v, k _ _ (.inl rfl) e⟩
  | frz ob u ih => obtain ⟨e, q⟩ := x; exact ⟨k _ _ (.inl rfl) e, ih q⟩
  | tbl ps =>
    have e : h.get? a = some { cls := .none, data := .fields ps } := x
    show h'.get? a = some { cls := .none, data := .fields ps }
    exact k a _ (.inl rfl) e
  | met f y =>
    have e : h.get? a = some (PySem.W.methodObj (.ref f) (.ref y)) := x
    show h'.get? a = some (PySem.W.methodObj (.ref f) (.ref y))
    exact k a _ (.inl rfl) e
  | ext φ => obtain ⟨p, ⟨o, e⟩, st⟩ := x; exact ⟨st _ _ p fun o q => k _ _ (.inl rfl) q, ⟨o, k _ _ (.inl rfl) e⟩, st⟩
theorem HOk.lt (x : HOk P w H h) (e : H a = some o) : a < h.objs.size := (x a o e).lt
theorem HOk.fresh (x : HOk P w H h) (e : h.objs.size ≤ a) : H a = none := by
  cases q : H a with
  | none => rfl
  | some u => exact absurd (Nat.lt_of_lt_of_le (x.lt q) e) (Nat.lt_irrefl _)
theorem HOk.kept (x : HOk P w H h) (k : ∀ b u, h.get? b = some u → h'.get? b = some u) : HOk P w H h' := fun a o e =>
  (x a o e).stay (fun b u _ q => k b u q) (fun _ q => q) fun _ _ q => q
theorem HOk.laid (x : HOk P w H h) (k : ∀ b u, h.get? b = some u → h'.get? b = some u) (hp : h.objs.size ≤ a) (new : ObjOk P w (upd H a o) h' a o) : HOk P w (upd H a o) h' := fun b u e => by
  have hn := x.fresh hp
  by_cases hb : b = a
  · subst hb; rw [upd_same] at e; cases e; exact new
  · rw [upd_ne hb] at e
    exact (x b u e).stay (fun c v _ q => k c v q) (fun c q => by rw [upd_ne (ne_of_none q hn)]; exact q) fun c xs q => by rw [upd_ne (ne_of_none q hn)]; exact q
end
def Rd (H : Hp) (a : Addr) (u : HO) : Prop := H a = some u ∨ ∃ o, H a = some (.frz o u)
theorem Rd.of {H : Hp} {a : Addr} {u : HO} (h : H a = some u) : Rd H a u := .inl h
theorem Rd.ok {P : Program} {w : World} {H : Hp} {h : Heap} {a : Addr} {u : HO} (r : Rd H a u) (x : HOk P w H h) : ObjOk P w H h a u := by
  rcases r with r | ⟨o, r⟩
  · exact x a u r
  · obtain ⟨_, q⟩ := x a _ r
    exact q
def Mut : Option HO → Prop
  | some (.lst _) => True
  | some (.dK _) => True
  | some (.dT _) => True
  | some (.set _ _) => True
  | some (.ins _ _ _) => True
  | some (.ext _) => True
  | _ => False
section
variable {P : Program} {w : World} {H : Hp} {h h' : Heap} {x e : Addr} {o' : HO}
theorem HOk.write (ok : HOk P w H h) (mu : Mut (H x)) (he : e = x ∨ H e = some (.own x)) (k : ∀ b u, b ≠ e → h.get? b = some u → h'.get? b = some u) (heo : ∃ u, h'.get? e = some u)
    (new : ObjOk P w (upd H x o') h' x o') : HOk P w (upd H x o') h' := fun b u q => by
  have nown : ∀ c y, H c = some (.own y) → c ≠ x := fun c y r z => by subst z; rw [r] at mu; exact mu
  have ntup : ∀ c xs, H c = some (.tup xs) → c ≠ x := fun c xs r z => by subst z; rw [r] at mu; exact mu
  by_cases hb : b = x
  · subst hb; rw [upd_same] at q; cases q; exact new
  · rw [upd_ne hb] at q
    by_cases hbe : b = e
    · have q' : H b = some (.own x) := by
        rcases he with z | z
        · exact absurd (hbe.trans z) hb
        · rw [hbe]; exact z
      rw [q] at q'; cases q'
      obtain ⟨v, hv⟩ := heo
      exact ⟨v, by rw [hbe]; exact hv⟩
    · refine (ok b u q).stay (fun c v hc r => k c v ?_ r) (fun c r => by rw [upd_ne (nown c b r)]; exact r) fun c xs r => by rw [upd_ne (ntup c xs r)]; exact r
      rcases hc with rfl | hc
      · exact hbe
      · rintro rfl
        rcases he with z | z
        · exact nown c b hc z
        · rw [hc] at z; cases z; exact hb rfl
end
structure Un (fs ex : List Addr) (H H' : Hp) (h h' : Heap) : Prop where
  keep : ∀ b o, h.get? b = some o → H b = none → b ∉ fs → b ∉ ex → h'.get? b = some o
  slot : ∀ b o, h.get? b = some o → H b = none → b ∈ fs → b ∉ ex → ∃ sl, h'.get? b = some { o with slots := sl }
  free : ∀ b o, h.get? b = some o → H b = none → b ∉ ex → H' b = none
  there : ∀ b o, h.get? b = some o → b ∉ ex → ∃ o', h'.get? b = some o'
  tups : ∀ b xs, H b = some (.tup xs) → H' b = some (.tup xs)
  frzs : ∀ b o u, H b = some (.frz o u) → H' b = some (.frz o u)
  tbls : ∀ b ps, H b = some (.tbl ps) → ∃ more, H' b = some (.tbl (ps ++ more))
section
variable {fs fs' ex ex' : List Addr} {H H1 H2 : Hp} {h h1 h2 h' : Heap} {a x e : Addr} {o : HO}
theorem Un.any (u : Un fs ex H H1 h h1) {b : Addr} {ob : Obj} (q : h.get? b = some ob) (n : H b = none) (hx : b ∉ ex) : ∃ sl, h1.get? b = some { ob with slots := sl } := by
  by_cases hb : b ∈ fs
  · exact u.slot b ob q n hb hx
  · exact ⟨ob.slots, u.keep b ob q n hb hx⟩
theorem Un.trans (a : Un fs ex H H1 h h1) (b : Un fs ex H1 H2 h1 h2) : Un fs ex H H2 h h2 where
  keep := fun c ob q n hc hx => b.keep c ob (a.keep c ob q n hc hx) (a.free c ob q n hx) hc hx
  slot := fun c ob q n hc hx => by
    obtain ⟨sl, e1⟩ := a.slot c ob q n hc hx
    obtain ⟨sl', e2⟩ := b.slot c _ e1 (a.free c ob q n hx) hc hx
    exact ⟨sl', e2⟩
  free := fun c ob q n hx => by
    obtain ⟨o', e1⟩ := a.there c ob q hx
    exact b.free c o' e1 (a.free c ob q n hx) hx
  there := fun c ob q hx => by
    obtain ⟨o', e1⟩ := a.there c ob q hx
    exact b.there c o' e1 hx
  tups := fun c xs q => b.tups c xs (a.tups c xs q)
  frzs := fun c ob xs q => b.frzs c ob xs (a.frzs c ob xs q)
  tbls := fun c ps q => by
    obtain ⟨m1, e1⟩ := a.tbls c ps q
    obtain ⟨m2, e2⟩ := b.tbls c _ e1
    exact ⟨m1 ++ m2, by rw [e2, Array.append_assoc]⟩
theorem Un.kept (k : ∀ b u, h.get? b = some u → h'.get? b = some u) : Un fs ex H H h h' :=
  ⟨fun b ob q _ _ _ => k b ob q, fun b ob q _ _ _ => ⟨ob.slots, k b ob q⟩, fun _ _ _ n _ => n, fun b ob q _ => ⟨ob, k b ob q⟩, fun _ _ q => q, fun _ _ _ q => q, fun _ ps q => ⟨#[], by rw [q]; simp⟩⟩
theorem Un.refl : Un fs ex H H h h := Un.kept fun _ _ q => q
theorem Un.laid (k : ∀ b u, h.get? b = some u → h'.get? b = some u) (hp : h.objs.size ≤ a) (hn : H a = none) : Un fs ex H (upd H a o) h h' where
  keep := fun b u q _ _ _ => k b u q
  slot := fun b u q _ _ _ => ⟨u.slots, k b u q⟩
  free := fun b u q n _ => by rw [upd_ne (Nat.ne_of_lt (Nat.lt_of_lt_of_le (Heap.lt_size q) hp))]; exact n
  there := fun b u q _ => ⟨u, k b u q⟩
  tups := fun b xs q => by rw [upd_ne (ne_of_none q hn)]; exact q
  frzs := fun b u xs q => by rw [upd_ne (ne_of_none q hn)]; exact q
  tbls := fun b ps q => ⟨#[], by rw [upd_ne (ne_of_none q hn), q]; simp⟩
theorem Un.write (mu : Mut (H x)) (he : e = x ∨ H e = some (.own x)) (k : ∀ b u, b ≠ e → h.get? b = some u → h'.get? b = some u) (heo : ∃ u, h'.get? e = some u) : Un fs ex H (upd H x o) h h' := by
  have hx : ∀ b, H b = none → b ≠ x := fun b n z => by subst z; rw [n] at mu; exact mu
  have hb : ∀ b, H b = none → b ≠ e := fun b n z => by
    subst z
    rcases he with r | r
    · exact hx b n r
    · rw [n] at r; cases r
  have hm : ∀ b u, H b = some u → ¬ Mut (some u) → b ≠ x := fun b u q nm z => by subst z; rw [q] at mu; exact nm mu
  refine ⟨fun b u q n _ _ => k b u (hb b n) q, fun b u q n _ _ => ⟨u.slots, k b u (hb b n) q⟩, fun b u q n _ => by rw [upd_ne (hx b n)]; exact n, fun b u q _ => ?_,
    fun b xs q => by rw [upd_ne (hm b _ q fun z => z)]; exact q, fun b u xs q => by rw [upd_ne (hm b _ q fun z => z)]; exact q, fun b ps q => ⟨#[], by rw [upd_ne (hm b _ q fun z => z), q]; simp⟩⟩
  by_cases hbe : b = e
  · subst hbe; exact heo
  · exact ⟨u, k b u hbe q⟩
theorem Un.mono (u : Un fs ex H H1 h h1) (hs : ∀ b ∈ fs, b ∈ fs') (hx : ∀ b ∈ ex, b ∈ ex') : Un fs' ex' H H1 h h1 :=
  ⟨fun b ob q n hb he => u.keep b ob q n (fun z => hb (hs b z)) fun z => he (hx b z), fun _ _ q n _ he => u.any q n fun z => he (hx _ z), fun b ob q n he => u.free b ob q n fun z => he (hx b z), fun b ob q he => u.there b ob q fun z => he (hx b z), u.tups, u.frzs, u.tbls⟩
end
def trk (h : Heap) (H : Hp) : List Addr := (List.range h.objs.size).filter fun a => (H a).isSome
def hidT (h : Heap) (H : Hp) : Heap := PySem.W.hideAll h (trk h H)
theorem hidT_size (h : Heap) (H : Hp) : (hidT h H).objs.size = h.objs.size := PySem.W.hideAll_size _ _
theorem hidT_get {h : Heap} {H : Hp} {b : Addr} {o : Obj} (e : h.get? b = some o) (n : H b = none) : (hidT h H).get? b = some o :=
  PySem.W.hideAll_get _ e fun hm => by
    have q : (H b).isSome = true := (List.mem_filter.mp hm).2
    rw [n] at q; simp at q
theorem of_hidT {h : Heap} {H : Hp} {b : Addr} {o : Obj} (e : (hidT h H).get? b = some o) : h.get? b = some o ∧ H b = none := by
  have e' : h.get? b = some o := PySem.W.of_hideAll (trk h H) e
  refine ⟨e', ?_⟩
  cases q : H b with
  | none => rfl
  | some x =>
    have hm : b ∈ trk h H := List.mem_filter.mpr ⟨List.mem_range.mpr (Heap.lt_size e'), by simp [q]⟩
    have z : (hidT h H).get? b = none := PySem.W.hideAll_none (trk h H) hm
    rw [z] at e; cases e

def allNews (g h : Heap) (L : Addr) : List (Addr × Obj) := (List.range h.objs.size).filterMap fun a => if a = L ∨ (g.get? a).isSome = true then none else (h.get? a).map fun o => (a, o)
def rest (g h : Heap) (L d : Addr) : List (Addr × Obj) := (allNews g h L).filter fun p => decide (p.1 ≠ d)
end L2
namespace L2
open PySem PySem.Spec PyProof.Rows
structure Mod (K : PySem.W.Frag) (mg : Str → Option Value) (base : Heap) : Prop where
  kin : K.In base
  glob : base.Ns mainGlobals mg
  blt : ∃ mb, base.Ns builtinsNs mb ∧ ∀ x : Str, x ≠ "__name__" → mb x = bootBuiltins x
  nolimit : base.NoLimit

structure Cx where
  prog : Program
  w : World
  K : PySem.W.Frag
  mg : Str → Option Value
  base : Heap
  A : Around
  N : List Str
  s₀ : Shared
  H₀ : Hp
  env : Env
  outer : List Env
  stack : List Env
  ex : List Addr
  fn : Str → Bool
  calm : Bool
  pn : List (Addr × Obj)
  xe : Value → Shared → Prop
def frs (l : List Env) : List Addr := l.filterMap (·.frame)
abbrev Cx.fs (X : Cx) : List Addr := frs X.outer

def Vis (sc : Scope) (x : Str) : Prop := sc.names.lookup x = some .local ∨ sc.names.lookup x = some .cell ∨ sc.names.lookup x = some .free
def Loc (sc : Scope) (x : Str) : Prop := sc.names.lookup x = some .local ∨ sc.names.lookup x = some .cell
def Look (env : Env) (h : Heap) (m : Str → Option Value) (x : Str) (u : Value) : Prop :=
  (env.kindOf x = some .local ∧ m x = some u) ∨ ((env.kindOf x = some .cell ∨ env.kindOf x = some .free) ∧ ∃ c, env.cells.lookup x = some c ∧ h.IsCell c (some u))

structure Cx.Ok (X : Cx) : Prop where
  mod : Mod X.K X.mg X.base
  kind : X.env.scope.kind = .function
  glob : X.env.globals = mainGlobals
  blt : X.env.builtins = builtinsNs
  above : X.s₀.heap.objs.size ≤ X.env.locals
  inj : ∀ x y c, X.env.cells.lookup x = some c → X.env.cells.lookup y = some c → x = y
  has : ∀ x, (X.env.kindOf x = some .cell ∨ X.env.kindOf x = some .free) → ∃ c, X.env.cells.lookup x = some c
  cab : ∀ x c, X.fn x = true → X.env.cells.lookup x = some c → X.s₀.heap.objs.size ≤ c
  hd : X.calm = true → X.A.handled = none
  frames : X.A.frames = some X.stack
  stk : X.stack = X.outer ∨ (X.stack = X.env :: X.outer ∧ X.env.frame = some X.env.locals)
  exf : ∀ b ∈ X.ex, b ≠ X.env.locals ∧ ∀ x c, X.env.cells.lookup x = some c → c ≠ b
  bs : ∀ b o, X.base.get? b = some o → X.s₀.heap.get? b = some o ∧ X.H₀ b = none
  bsz : X.base.objs.size ≤ X.s₀.heap.objs.size
  noex : ∀ b o, X.base.get? b = some o → b ∉ X.ex
  exfs : ∀ b ∈ X.ex, b ∉ X.fs
  funs : X.s₀.heap.FunFrames X.base X.outer
  frf : ∀ b ∈ X.fs, X.H₀ b = none

structure Inv (X : Cx) (pins : List (Addr × Obj)) (σ : List (Option V)) (H : Hp) (s : Shared) : Prop where
  ok : X.Ok
  os : s.os = X.s₀.os
  bare : AllBare s.gens
  base : Un X.fs X.ex X.H₀ H X.s₀.heap s.heap
  loc : ∃ m, s.heap.Ns X.env.locals m ∧ ∀ (i : Nat) (x : Str) (v : V), X.N[i]? = some x → σ[i]? = some (some v) → Vis X.env.scope x → ∃ u, RelV v u ∧ Look X.env s.heap m x u
  cell : ∀ x c, X.env.cells.lookup x = some c → ∃ v, s.heap.IsCell c v
  free : H X.env.locals = none
  freeC : ∀ x c, X.env.cells.lookup x = some c → H c = none
  pin : ∀ p ∈ X.pn ++ pins, s.heap.get? p.1 = some p.2 ∧ H p.1 = none ∧ p.1 ≠ X.env.locals ∧ p.1 ∉ X.fs ∧ ∀ v, p.2.data ≠ .cell v
  hok : HOk X.prog X.w H s.heap
  len : σ.length = X.N.length

section
variable {X : Cx} {pins : List (Addr × Obj)} {σ : List (Option V)} {H H' : Hp} {s : Shared} {h' : Heap}
theorem Cx.Ok.nofr (ok : X.Ok) {b : Addr} {o : Obj} (e : X.base.get? b = some o) : b ∉ X.fs := fun hb => by
  have := (ok.funs.mem hb).1
  rw [e] at this; cases this
theorem Inv.bs (I : Inv X pins σ H s) : ∀ b o, X.base.get? b = some o → s.heap.get? b = some o ∧ H b = none := fun b o e =>
  ⟨I.base.keep b o (I.ok.bs b o e).1 (I.ok.bs b o e).2 (I.ok.nofr e) (I.ok.noex b o e), I.base.free b o (I.ok.bs b o e).1 (I.ok.bs b o e).2 (I.ok.noex b o e)⟩
theorem Inv.bk (I : Inv X pins σ H s) : ∀ b o, X.base.get? b = some o → s.heap.get? b = some o := fun b o e => (I.bs b o e).1
theorem Inv.mod (I : Inv X pins σ H s) : Mod X.K X.mg X.base := I.ok.mod
theorem Inv.kIn (I : Inv X pins σ H s) : X.K.In s.heap := I.ok.mod.kin.keeps I.bk
theorem Inv.nolimit (I : Inv X pins σ H s) : s.heap.NoLimit := I.ok.mod.nolimit.keeps I.bk
theorem Inv.fr (I : Inv X pins σ H s) : ∃ m, Fr X.base X.env.locals s.heap m :=
  let ⟨m, hn, _⟩ := I.loc
  ⟨m, hn, I.bk, Nat.le_trans I.ok.bsz I.ok.above⟩
theorem Inv.lt (I : Inv X pins σ H s) : X.env.locals < s.heap.objs.size := let ⟨_, hn, _⟩ := I.loc; hn.lt
theorem Inv.sz (I : Inv X pins σ H s) : X.s₀.heap.objs.size ≤ s.heap.objs.size := Nat.le_trans I.ok.above (Nat.le_of_lt I.lt)
theorem Inv.nofs (I : Inv X pins σ H s) {a : Addr} (h : s.heap.objs.size ≤ a) : a ∉ X.fs := fun hb => by
  obtain ⟨_, o, ho, _⟩ := I.ok.funs.mem hb
  exact absurd (Nat.lt_of_lt_of_le (Heap.lt_size ho) (Nat.le_trans I.sz h)) (Nat.lt_irrefl _)
theorem Inv.cne (I : Inv X pins σ H s) : ∀ x c, X.env.cells.lookup x = some c → c ≠ X.env.locals := fun x c e z => by
  obtain ⟨v, o, ho, hd⟩ := I.cell x c e
  obtain ⟨m, ⟨o', es, ep, ho', hd', _⟩, _⟩ := I.loc
  rw [z, ho'] at ho; cases ho; rw [hd'] at hd; cases hd
theorem Inv.funs (I : Inv X pins σ H s) : s.heap.FunFrames X.base X.outer := by
  have all : ∀ (l : List Env), (∀ b ∈ frs l, b ∈ X.fs) → X.s₀.heap.FunFrames X.base l → s.heap.FunFrames X.base l := by
    intro l
    induction l with
    | nil => intro _ _; trivial
    | cons env r ih =>
      intro hs hl
      obtain ⟨hk, ⟨L, o, hf, hn, ho, hd⟩, hr⟩ := hl
      have hL : L ∈ X.fs := hs L (by unfold frs; rw [List.filterMap_cons, hf]; exact List.mem_cons_self)
      obtain ⟨sl, e⟩ := I.base.slot L o ho (I.ok.frf L hL) hL fun z => I.ok.exfs L z hL
      exact ⟨hk, ⟨L, _, hf, hn, e, hd⟩, ih (fun b hb => hs b (by unfold frs; rw [List.filterMap_cons, hf]; exact List.mem_cons_of_mem _ hb)) hr⟩
  exact all X.outer (fun _ hb => hb) I.ok.funs

theorem Inv.stack (I : Inv X pins σ H s) : s.heap.FunFrames X.base X.stack := by
  rcases I.ok.stk with e | ⟨e, hf⟩
  · rw [e]; exact I.funs
  · rw [e]
    obtain ⟨m, hn, _⟩ := I.loc
    refine .cons (by rw [I.ok.kind]; decide) hf hn ?_ I.funs
    exact Heap.get?_none_of_le (Nat.le_trans I.ok.bsz I.ok.above)
theorem Inv.stkSub (I : Inv X pins σ H s) : ∀ b ∈ frs X.stack, b ∈ X.env.locals :: X.fs := fun b hb => by
  rcases I.ok.stk with e | ⟨e, hf⟩
  · rw [e] at hb; exact List.mem_cons_of_mem _ hb
  · rw [e] at hb
    unfold frs at hb
    rw [List.filterMap_cons, hf] at hb
    exact hb
theorem Inv.stkFree (I : Inv X pins σ H s) : ∀ b ∈ frs X.stack, H b = none := fun b hb => by
  rcases List.mem_cons.mp (I.stkSub b hb) with e | hb
  · rw [e]; exact I.free
  · obtain ⟨_, o, ho, _⟩ := I.ok.funs.mem hb
    exact I.base.free b o ho (I.ok.frf b hb) fun z => I.ok.exfs b z hb

theorem Inv.step {g' : Array GenState} {t' : Nat} {d' : Drawn} {ch : List Addr} (I : Inv X pins σ H s)
    (hch : ∀ b ∈ ch, (b ∈ X.ex ∨ X.s₀.heap.objs.size ≤ b) ∧ b ≠ X.env.locals ∧ (∀ x c, X.env.cells.lookup x = some c → c ≠ b) ∧ ∀ p ∈ X.pn ++ pins, p.1 ≠ b)
    (keep : ∀ b o, b ≠ X.env.locals → b ∉ X.fs → b ∉ ch → s.heap.get? b = some o → H b = none → h'.get? b = some o)
    (slot : ∀ b o, b ≠ X.env.locals → b ∈ X.fs → b ∉ ch → s.heap.get? b = some o → H b = none → ∃ sl, h'.get? b = some { o with slots := sl }) (free : ∀ b o, b ∉ ch → s.heap.get? b = some o → H b = none → H' b = none)
    (there : ∀ b o, b ∉ ch → s.heap.get? b = some o → ∃ o', h'.get? b = some o')
    (tups : ∀ b xs, H b = some (.tup xs) → H' b = some (.tup xs)) (frzs : ∀ b o u, H b = some (.frz o u) → H' b = some (.frz o u)) (tbls : ∀ b ps, H b = some (.tbl ps) → ∃ more, H' b = some (.tbl (ps ++ more)))
    (ns : ∀ m, s.heap.Ns X.env.locals m → h'.Ns X.env.locals m) (hok : HOk X.prog X.w H' h') (hg : AllBare g') :
    Inv X pins σ H' { s with heap := h', gens := g', drawn := d', toks := t' } := by
  have neL : ∀ b o, X.s₀.heap.get? b = some o → b ≠ X.env.locals := fun b o e => Nat.ne_of_lt (Nat.lt_of_lt_of_le (Heap.lt_size e) I.ok.above)
  have neC : ∀ b o, X.s₀.heap.get? b = some o → b ∉ X.ex → b ∉ ch := fun b o e hx hb => by
    rcases (hch b hb).1 with z | z
    · exact hx z
    · exact absurd (Nat.lt_of_lt_of_le (Heap.lt_size e) z) (Nat.lt_irrefl _)
  have cellK : ∀ x c, X.env.cells.lookup x = some c → ∀ v, s.heap.IsCell c v → h'.IsCell c v := fun x c e v ⟨o, ho, hd⟩ => by
    have nch : c ∉ ch := fun z => (hch c z).2.2.1 x c e rfl
    by_cases hc : c ∈ X.fs
    · obtain ⟨sl, q⟩ := slot c o (I.cne x c e) hc nch ho (I.freeC x c e)
      exact ⟨_, q, hd⟩
    · exact ⟨o, keep c o (I.cne x c e) hc nch ho (I.freeC x c e), hd⟩
  refine ⟨I.ok, I.os, hg, ⟨fun b o e n hb hx => ?_, fun b o e n hb hx => ?_, fun b o e n hx => ?_, fun b o e hx => ?_, fun b xs e => tups b xs (I.base.tups b xs e), fun b o xs e => frzs b o xs (I.base.frzs b o xs e), fun b ps e => ?_⟩, ?_, fun x c e => ?_, ?_, fun x c e => ?_, fun p hp => ?_, hok, I.len⟩
  · exact keep b o (neL b o e) hb (neC b o e hx) (I.base.keep b o e n hb hx) (I.base.free b o e n hx)
  · obtain ⟨sl, e1⟩ := I.base.slot b o e n hb hx
    obtain ⟨sl', e2⟩ := slot b _ (neL b o e) hb (neC b o e hx) e1 (I.base.free b o e n hx)
    exact ⟨sl', e2⟩
  · obtain ⟨o', e1⟩ := I.base.there b o e hx
    exact free b o' (neC b o e hx) e1 (I.base.free b o e n hx)
  · obtain ⟨o', e1⟩ := I.base.there b o e hx
    exact there b o' (neC b o e hx) e1
  · obtain ⟨m1, e1⟩ := I.base.tbls b ps e
    obtain ⟨m2, e2⟩ := tbls b _ e1
    exact ⟨m1 ++ m2, by rw [e2, Array.append_assoc]⟩
  · obtain ⟨m, hn, hl⟩ := I.loc
    refine ⟨m, ns m hn, fun i x v e1 e2 e3 => ?_⟩
    obtain ⟨u, r, l⟩ := hl i x v e1 e2 e3
    refine ⟨u, r, ?_⟩
    rcases l with l | ⟨k, c, e, z⟩
    · exact .inl l
    · exact .inr ⟨k, c, e, cellK x c e _ z⟩
  · obtain ⟨v, z⟩ := I.cell x c e
    exact ⟨v, cellK x c e v z⟩
  · obtain ⟨m, ⟨o, _, _, ho, _⟩, _⟩ := I.loc
    exact free _ o (fun z => (hch _ z).2.1 rfl) ho I.free
  · obtain ⟨v, o, ho, hd⟩ := I.cell x c e
    exact free c o (fun z => (hch c z).2.2.1 x c e rfl) ho (I.freeC x c e)
  · obtain ⟨e, n, ne, nf, d⟩ := I.pin p hp
    have nch : p.1 ∉ ch := fun z => (hch p.1 z).2.2.2 p hp rfl
    exact ⟨keep p.1 p.2 ne nf nch e n, free p.1 p.2 nch e n, ne, nf, d⟩
theorem Inv.un {t' : Nat} (I : Inv X pins σ H s) (u : Un X.fs [] H H' s.heap h') (hok : HOk X.prog X.w H' h') : Inv X pins σ H' { s with heap := h', toks := t' } := by
  obtain ⟨m, ⟨o, es, ep, ho, r⟩, _⟩ := id I.loc
  obtain ⟨sl, hL⟩ := u.any ho I.free (by simp)
  exact I.step (g' := s.gens) (d' := s.drawn) (ch := []) (fun _ z => nomatch z) (fun b o _ hb _ e n => u.keep b o e n hb (by simp)) (fun b o _ hb _ e n => u.slot b o e n hb (by simp)) (fun b o _ e n => u.free b o e n (by simp)) (fun b o _ e => u.there b o e (by simp)) u.tups u.frzs u.tbls (fun m' hm => by
    obtain ⟨o', es', ep', ho', r'⟩ := hm
    rw [ho] at ho'; cases ho'
    exact ⟨_, es', ep', hL, r'⟩) hok I.bare
theorem Inv.call {g' : Array GenState} {t' : Nat} {d' : Drawn} {ch : List Addr} (I : Inv X pins σ H s) (u : Un (frs X.stack) ch H H' s.heap h') (hok : HOk X.prog X.w H' h') (hg : AllBare g')
    (hch : ∀ b ∈ ch, (b ∈ X.ex ∨ X.s₀.heap.objs.size ≤ b) ∧ b ≠ X.env.locals ∧ (∀ x c, X.env.cells.lookup x = some c → c ≠ b) ∧ ∀ p ∈ X.pn ++ pins, p.1 ≠ b) :
    Inv X pins σ H' { s with heap := h', gens := g', drawn := d', toks := t' } := by
  obtain ⟨m, ⟨o, es, ep, ho, r⟩, _⟩ := id I.loc
  obtain ⟨sl, hL⟩ := u.any ho I.free fun z => (hch _ z).2.1 rfl
  exact I.step (ch := ch) hch (fun b o hL hb hc e n => u.keep b o e n (fun z => (List.mem_cons.mp (I.stkSub b z)).elim hL hb) hc) (fun b o _ _ hc e n => u.any e n hc) (fun b o hc e n => u.free b o e n hc) (fun b o hc e => u.there b o e hc) u.tups u.frzs u.tbls (fun m' hm => by
    obtain ⟨o', es', ep', ho', r'⟩ := hm
    rw [ho] at ho'; cases ho'
    exact ⟨_, es', ep', hL, r'⟩) hok hg
theorem Inv.turned {t' : Nat} {it : Addr} (I : Inv X pins σ H s) (k : ∀ b o, b ≠ it → s.heap.get? b = some o → h'.get? b = some o) (hn : H it = none) (hL : it ≠ X.env.locals)
    (h1 : it ∈ X.ex ∨ X.s₀.heap.objs.size ≤ it) (h2 : ∀ x c, X.env.cells.lookup x = some c → c ≠ it) (h3 : ∀ p ∈ X.pn ++ pins, p.1 ≠ it) : Inv X pins σ H { s with heap := h', toks := t' } := by
  have nit : ∀ b u, H b = some u → b ≠ it := fun b u e z => by rw [z, hn] at e; cases e
  refine I.step (g' := s.gens) (d' := s.drawn) (ch := [it]) (fun b hb => ?_) (fun b o _ _ hc e _ => k b o (fun z => hc (by simp [z])) e) (fun b o _ _ hc e _ => ⟨o.slots, k b o (fun z => hc (by simp [z])) e⟩) (fun _ _ _ _ n => n)
    (fun b o hc e => ⟨o, k b o (fun z => hc (by simp [z])) e⟩) (fun _ _ e => e) (fun _ _ _ e => e) (fun b ps e => ⟨#[], by rw [e]; simp⟩) (fun m hm => ?_) (fun b u e => ?_) I.bare
  · have e : b = it := by simpa using hb
    subst e
    exact ⟨h1, hL, h2, h3⟩
  · obtain ⟨o, es, ep, ho, r⟩ := hm
    exact ⟨o, es, ep, k _ o (Ne.symm hL) ho, r⟩
  · refine (I.hok b u e).stay (fun c v hc q => k c v ?_ q) (fun _ q => q) fun _ _ q => q
    rcases hc with z | z
    · rw [z]; exact nit b u e
    · exact nit c _ z
theorem Inv.tok (I : Inv X pins σ H s) (t : Nat) : Inv X pins σ H { s with toks := t } := I.un (h' := s.heap) (t' := t) Un.refl I.hok
theorem Inv.kept {t' : Nat} (I : Inv X pins σ H s) (k : ∀ b u, s.heap.get? b = some u → h'.get? b = some u) : Inv X pins σ H { s with heap := h', toks := t' } := I.un (Un.kept k) (I.hok.kept k)
theorem Inv.laid {a : Addr} {o : HO} {t' : Nat} (I : Inv X pins σ H s) (k : ∀ b u, s.heap.get? b = some u → h'.get? b = some u) (hp : s.heap.objs.size ≤ a) (new : ObjOk X.prog X.w (upd H a o) h' a o) :
    Inv X pins σ (upd H a o) { s with heap := h', toks := t' } := I.un (Un.laid k hp (I.hok.fresh hp)) (I.hok.laid k hp new)
theorem Inv.write {x e : Addr} {o : HO} {t' : Nat} (I : Inv X pins σ H s) (mu : Mut (H x)) (he : e = x ∨ H e = some (.own x)) (k : ∀ b u, b ≠ e → s.heap.get? b = some u → h'.get? b = some u) (heo : ∃ u, h'.get? e = some u)
    (new : ObjOk X.prog X.w (upd H x o) h' x o) : Inv X pins σ (upd H x o) { s with heap := h', toks := t' } := I.un (Un.write mu he k heo) (I.hok.write mu he k heo new)
theorem Inv.weak {σ' : List (Option V)} (I : Inv X pins σ H s) (hl : σ'.length = σ.length) (w : ∀ (i : Nat) v, σ'[i]? = some (some v) → σ[i]? = some (some v)) : Inv X pins σ' H s :=
  ⟨I.ok, I.os, I.bare, I.base, let ⟨m, hn, hl'⟩ := I.loc; ⟨m, hn, fun i x v e1 e2 e3 => hl' i x v e1 (w i v e2) e3⟩, I.cell, I.free, I.freeC, I.pin, I.hok, hl.trans I.len⟩
theorem Inv.pins_of {pins' : List (Addr × Obj)} (I : Inv X pins σ H s) (h : ∀ p ∈ pins', s.heap.get? p.1 = some p.2 ∧ H p.1 = none ∧ p.1 ≠ X.env.locals ∧ p.1 ∉ X.fs ∧ ∀ v, p.2.data ≠ .cell v) : Inv X pins' σ H s :=
  ⟨I.ok, I.os, I.bare, I.base, I.loc, I.cell, I.free, I.freeC, fun p hp => (List.mem_append.mp hp).elim (fun z => I.pin p (List.mem_append_left _ z)) (h p), I.hok, I.len⟩

theorem nodup_ix {N : List Str} (hN : N.Nodup) {i j : Nat} {x : Str} (a : N[i]? = some x) (b : N[j]? = some x) : i = j := by
  obtain ⟨h1, e1⟩ := List.getElem?_eq_some_iff.mp a
  obtain ⟨h2, e2⟩ := List.getElem?_eq_some_iff.mp b
  exact (List.getElem_inj hN).mp (e1.trans e2.symm)

theorem store_ok2 {M : Model} {A : Around} {E : Value → Shared → Prop} {i : Nat} {x : Str} {v : V} {u : Value} {Q : Unit → Shared → Prop} (I : Inv X pins σ H s) (hN : X.N.Nodup) (hi : X.N[i]? = some x) (hx : Loc X.env.scope x) (r : RelV v u)
    (h : ∀ s', Inv X pins (σ.set i (some v)) H s' → (∃ a, Heap.SameBut a s.heap s'.heap ∧ (a = X.env.locals ∨ X.env.cells.lookup x = some a)) → Q () s') (hf : X.fn x = true ∨ X.env.scope.names.lookup x = some .local := by first | exact .inl rfl | exact .inr rfl | assumption) : wpAny M A (storeName X.env x u) Q E s := by
  obtain ⟨m, hn, hl⟩ := id I.loc
  have hcls : (X.env.scope.kind == .class || (X.env.scope.kind == .module && X.env.locals != X.env.globals)) = false := by rw [I.ok.kind]; rfl
  have hiσ : i < σ.length := by rw [I.len]; exact (List.getElem?_eq_some_iff.mp hi).1
  have cne := I.cne
  have tracked : ∀ {a : Addr} {h' : Heap}, (∃ o, s.heap.get? a = some o ∧ H a = none) → Heap.SameBut a s.heap h' → HOk X.prog X.w H h' := fun {a h'} ha hs b ob e => by
    obtain ⟨_, _, hfree⟩ := ha
    refine (I.hok b ob e).stay (fun c w' hc q => (hs.2 c ?_).trans q) (fun _ q => q) fun _ _ q => q
    rintro rfl
    rcases hc with rfl | hc
    · rw [hfree] at e; cases e
    · rw [hfree] at hc; cases hc
  rcases hx with hk | hk
  · refine wpAny_storeName_local hk hn (fun h' hn' hs => ?_) hcls
    obtain ⟨oL, _, _, hoL, _⟩ := id hn
    refine h _ ⟨I.ok, I.os, I.bare, ⟨fun b o e n hb hx => ?_, fun b o e n hb hx => ?_, I.base.free, fun b o e hx => ?_, I.base.tups, I.base.frzs, I.base.tbls⟩, ⟨_, hn', fun j y v' e1 e2 e3 => ?_⟩, fun y c e => ?_, I.free, I.freeC, fun p hp => ?_, tracked ⟨oL, hoL, I.free⟩ hs, by simpa using I.len⟩ ⟨_, hs, .inl rfl⟩
    · exact (hs.2 b (Nat.ne_of_lt (Nat.lt_of_lt_of_le (Heap.lt_size e) I.ok.above))).trans (I.base.keep b o e n hb hx)
    · obtain ⟨sl, e1⟩ := I.base.slot b o e n hb hx
      exact ⟨sl, (hs.2 b (Nat.ne_of_lt (Nat.lt_of_lt_of_le (Heap.lt_size e) I.ok.above))).trans e1⟩
    · obtain ⟨o', e1⟩ := I.base.there b o e hx
      exact ⟨o', (hs.2 b (Nat.ne_of_lt (Nat.lt_of_lt_of_le (Heap.lt_size e) I.ok.above))).trans e1⟩
    · by_cases hj : j = i
      · subst hj
        rw [hi] at e1; cases e1
        rw [List.getElem?_set_self hiσ] at e2
        cases e2
        exact ⟨u, r, .inl ⟨hk, by simp⟩⟩
      · rw [List.getElem?_set_ne (Ne.symm hj)] at e2
        obtain ⟨u', r', q⟩ := hl j y v' e1 e2 e3
        refine ⟨u', r', ?_⟩
        rcases q with ⟨k, e⟩ | ⟨k, c, e, z⟩
        · refine .inl ⟨k, ?_⟩
          have : y ≠ x := fun e => hj (nodup_ix hN e1 (e ▸ hi))
          simp [this, e]
        · exact .inr ⟨k, c, e, z.sameBut hs (cne y c e)⟩
    · obtain ⟨w', z⟩ := I.cell y c e
      exact ⟨w', z.sameBut hs (cne y c e)⟩
    · obtain ⟨e, n, ne, nf, d⟩ := I.pin p hp
      exact ⟨(hs.2 p.1 ne).trans e, n, ne, nf, d⟩
  · have hfn : X.fn x = true := by
      rcases hf with z | z
      · exact z
      · rw [z] at hk; cases hk
    obtain ⟨c, hc⟩ := I.ok.has x (.inl hk)
    obtain ⟨w', z⟩ := I.cell x c hc
    refine wpAny_storeName_cell I.ok.kind hk hc z (fun h' hc' hs => ?_)
    obtain ⟨oc, hoc, hocd⟩ := id z
    refine h { s with heap := h' } ⟨I.ok, I.os, I.bare, ⟨fun b o e n hb hx => ?_, fun b o e n hb hx => ?_, I.base.free, fun b o e hx => ?_, I.base.tups, I.base.frzs, I.base.tbls⟩, ⟨m, hn.sameBut hs (Ne.symm (cne x c hc)), fun j y v' e1 e2 e3 => ?_⟩, fun y c' e => ?_, I.free, I.freeC, fun p hp => ?_, tracked ⟨oc, hoc, I.freeC x c hc⟩ hs, by simpa using I.len⟩ ⟨c, hs, .inr hc⟩
    · exact (hs.2 b (Nat.ne_of_lt (Nat.lt_of_lt_of_le (Heap.lt_size e) (I.ok.cab x c hfn hc)))).trans (I.base.keep b o e n hb hx)
    · obtain ⟨sl, e1⟩ := I.base.slot b o e n hb hx
      exact ⟨sl, (hs.2 b (Nat.ne_of_lt (Nat.lt_of_lt_of_le (Heap.lt_size e) (I.ok.cab x c hfn hc)))).trans e1⟩
    · obtain ⟨o', e1⟩ := I.base.there b o e hx
      exact ⟨o', (hs.2 b (Nat.ne_of_lt (Nat.lt_of_lt_of_le (Heap.lt_size e) (I.ok.cab x c hfn hc)))).trans e1⟩
    · by_cases hj : j = i
      · subst hj
        rw [hi] at e1; cases e1
        rw [List.getElem?_set_self hiσ] at e2
        cases e2
        exact ⟨u, r, .inr ⟨.inl hk, c, hc, hc'⟩⟩
      · rw [List.getElem?_set_ne (Ne.symm hj)] at e2
        obtain ⟨u', r', q⟩ := hl j y v' e1 e2 e3
        refine ⟨u', r', ?_⟩
        rcases q with q | ⟨k, c', e, z'⟩
        · exact .inl q
        · refine .inr ⟨k, c', e, z'.sameBut hs ?_⟩
          rintro rfl
          exact hj (nodup_ix hN e1 (I.ok.inj _ _ _ e hc ▸ hi))
    · by_cases hcc : c' = c
      · subst hcc; exact ⟨_, hc'⟩
      · obtain ⟨w2, z2⟩ := I.cell y c' e
        exact ⟨w2, z2.sameBut hs hcc⟩
    · obtain ⟨e, n, ne, nf, d⟩ := I.pin p hp
      refine ⟨(hs.2 p.1 ?_).trans e, n, ne, nf, d⟩
      intro q
      rw [q, hoc] at e
      have q' : oc = p.2 := Option.some.inj e
      exact d w' (by rw [← q']; exact hocd)
theorem store_ok {M : Model} {A : Around} {E : Value → Shared → Prop} {i : Nat} {x : Str} {v : V} {u : Value} {Q : Unit → Shared → Prop} (I : Inv X pins σ H s) (hN : X.N.Nodup) (hi : X.N[i]? = some x) (hx : Loc X.env.scope x) (r : RelV v u)
    (h : ∀ s', Inv X pins (σ.set i (some v)) H s' → Q () s') (hf : X.fn x = true ∨ X.env.scope.names.lookup x = some .local := by first | exact .inl rfl | exact .inr rfl | assumption) : wpAny M A (storeName X.env x u) Q E s :=
  store_ok2 I hN hi hx r (fun s' I' _ => h s' I') hf
theorem Inv.call' {s' : Shared} {ch : List Addr} (I : Inv X pins σ H s) (ho : s'.os = s.os) (u : Un (frs X.stack) ch H H' s.heap s'.heap) (hok : HOk X.prog X.w H' s'.heap) (hg : AllBare s'.gens)
    (hch : ∀ b ∈ ch, (b ∈ X.ex ∨ X.s₀.heap.objs.size ≤ b) ∧ b ≠ X.env.locals ∧ (∀ x c, X.env.cells.lookup x = some c → c ≠ b) ∧ ∀ p ∈ X.pn ++ pins, p.1 ≠ b) : Inv X pins σ H' s' := by
  obtain ⟨h', g', d', t', o'⟩ := s'
  have e : o' = s.os := ho
  subst e
  exact I.call (g' := g') (t' := t') (d' := d') u hok hg hch
end
abbrev XK := Value → Option Addr → Hp → Prop
abbrev St := List (Option V)
abbrev VK := V → Hp → Prop
abbrev TE := St → Hp → VK → Prop
abbrev TT := St → Hp → (Bool → Hp → Prop) → Prop
abbrev TA := St → Hp → (List V → Hp → Prop) → Prop
structure Ends where
  nx : St → Hp → Prop
  rt : VK
  bk : St → Hp → Prop := fun _ _ => False
  ct : St → Hp → Prop := fun _ _ => False
abbrev TS := Ends → St → Hp → Prop

def EP (X : Cx) (pins : List (Addr × Obj)) (σ : St) (Q : VK) (u : Value) (s' : Shared) : Prop := ∃ v H', Inv X pins σ H' s' ∧ RelV v u ∧ Q v H'
def TP (X : Cx) (pins : List (Addr × Obj)) (σ : St) (Q : Bool → Hp → Prop) (b : Bool) (s' : Shared) : Prop := ∃ H', Inv X pins σ H' s' ∧ Q b H'
def AP (X : Cx) (pins : List (Addr × Obj)) (σ : St) (Q : List V → Hp → Prop) (us : List Value) (s' : Shared) : Prop := ∃ vs H', Inv X pins σ H' s' ∧ Vals vs us ∧ Q vs H'
def SP (X : Cx) (pins : List (Addr × Obj)) (D : Ends) (f : Flow) (s' : Shared) : Prop :=
  match f with
  | .next => ∃ σ' H', Inv X pins σ' H' s' ∧ D.nx σ' H'
  | .brk => ∃ σ' H', Inv X pins σ' H' s' ∧ D.bk σ' H'
  | .cont => ∃ σ' H', Inv X pins σ' H' s' ∧ D.ct σ' H'
  | .ret u => ∃ v σ' H', Inv X pins σ' H' s' ∧ RelV v u ∧ D.rt v H'

def PE (X : Cx) (e : Expr) (t : TE) : Prop :=
  ∀ (pins : List (Addr × Obj)) (s : Shared) (σ : St) (H : Hp) (Q : VK), Inv X pins σ H s → t σ H Q → wpAny (model X.prog X.w) X.A (eval e X.env) (EP X pins σ Q) X.xe s
def PT (X : Cx) (e : Expr) (t : TT) : Prop :=
  ∀ (pins : List (Addr × Obj)) (s : Shared) (σ : St) (H : Hp) (Q : Bool → Hp → Prop), Inv X pins σ H s → t σ H Q → wpAny (model X.prog X.w) X.A (isTrue e X.env (eval e X.env)) (TP X pins σ Q) X.xe s
def PW (X : Cx) (e : Expr) (t : TT) : Prop :=
  ∀ (whole : Sem Value) (pins : List (Addr × Obj)) (s : Shared) (σ : St) (H : Hp) (Q : Bool → Hp → Prop), Inv X pins σ H s → t σ H Q → wpAny (model X.prog X.w) X.A (isTrue e X.env whole) (TP X pins σ Q) X.xe s
theorem PW.pt {X : Cx} {e : Expr} {t : TT} (h : PW X e t) : PT X e t := h _
def PA (X : Cx) (es : List Expr) (t : TA) : Prop :=
  ∀ (pos : Pos) (pins : List (Addr × Obj)) (s : Shared) (σ : St) (H : Hp) (Q : List V → Hp → Prop), Inv X pins σ H s → t σ H Q → wpAny (model X.prog X.w) X.A (spliced (backTo pos (starEach es X.env))) (AP X pins σ Q) X.xe s
def PS (X : Cx) (st : Stmt) (t : TS) : Prop :=
  ∀ (pins : List (Addr × Obj)) (s : Shared) (σ : St) (H : Hp) (D : Ends), Inv X pins σ H s → t D σ H → wpAny (model X.prog X.w) X.A (exec st X.env) (SP X pins D) X.xe s
def PSs (X : Cx) (st : List Stmt) (t : TS) : Prop :=
  ∀ (pins : List (Addr × Obj)) (s : Shared) (σ : St) (H : Hp) (D : Ends), Inv X pins σ H s → t D σ H → wpAny (model X.prog X.w) X.A (execs st X.env) (SP X pins D) X.xe s
theorem thn {α : Type} {t : Sem α} {Q Q' : α → Shared → Prop} {M : Model} {A : Around} {E : Value → Shared → Prop} {s : Shared} (h : wpAny M A t Q E s) (hQ : ∀ a s, Q a s → Q' a s) : wpAny M A t Q' E s := wpAny_mono h hQ fun _ _ x => x
end L2
namespace L2
open PySem PySem.Spec PyProof.Rows
section
variable {X : Cx}
def tVar (i : Nat) : TE := fun σ H Q => ∃ v, σ[i]? = some (some v) ∧ Q v H
def tC (v : V) : TE := fun _ H Q => Q v H
theorem pe_var {i : Nat} {x : Str} {pos : Pos} (hN : X.N[i]? = some x) (hv : Vis X.env.scope x) (hd : (x == ("__debug__" : Str)) = false := by decide) (hcd : (x == ("__classdict__" : Str)) = false := by decide) : PE X (.Name x pos) (tVar i) := by
  intro pins s σ H Q I h
  obtain ⟨v, e, h⟩ := h
  obtain ⟨m, hn, hl⟩ := I.loc
  obtain ⟨u, r, l⟩ := hl i x v hN e hv
  have fin : EP X pins σ Q u s := ⟨v, H, I, r, h⟩
  rcases l with ⟨hk, hm⟩ | ⟨hk, c, hc, hcell⟩
  · exact wpAny_Name (wpAny_loadName_local I.ok.kind hk hn hm fin) hd
  · rcases hk with hk | hk
    · exact wpAny_Name (wpAny_loadName_cell I.ok.kind hk hc hcell fin) hd
    · exact wpAny_Name (wpAny_loadName_free I.ok.kind hk hc hcell fin hcd) hd
theorem pe_int {i j pos} : PE X (.Constant (.int i) j pos) (tC (.int i)) := fun _ _ _ H _ I h => wpAny_Constant_int ⟨.int i, H, I.tok _, ⟨_, rfl⟩, h⟩
theorem pe_bl {b j pos} : PE X (.Constant (.bool b) j pos) (tC (.bl b)) := fun _ _ _ H _ I h => Constant_bool ⟨.bl b, H, I, rfl, h⟩
theorem pe_str {x j pos} : PE X (.Constant (.str x) j pos) (tC (.str x)) := fun _ _ _ H _ I h => Calls.Constant_str ⟨.str x, H, I.tok _, ⟨_, rfl⟩, h⟩

def Gl (X : Cx) (x : Str) : Prop := X.env.kindOf x = some .globalImplicit
theorem ld_glob {E : Value → Shared → Prop} {pins : List (Addr × Obj)} {s : Shared} {σ : St} {H : Hp} {x : Str} {u : Value} {pos : Pos} {Q : Value → Shared → Prop} (I : Inv X pins σ H s) (hg : Gl X x) (hm : X.mg x = some u) (h : Q u s)
    (hd : (x == ("__debug__" : Str)) = false := by decide) : wpAny (model X.prog X.w) X.A (eval (.Name x pos) X.env) Q E s :=
  Calls.Name_function_global I.ok.kind hg (Calls.loadGlobal_global (by rw [I.ok.glob]; exact I.mod.glob.keeps I.bk) hm h) hd
theorem ld_blt {E : Value → Shared → Prop} {pins : List (Addr × Obj)} {s : Shared} {σ : St} {H : Hp} {x : Str} {u : Value} {pos : Pos} {Q : Value → Shared → Prop} (I : Inv X pins σ H s) (hg : Gl X x) (hm : X.mg x = none) (hv : bootBuiltins x = some u) (h : Q u s)
    (hn : x ≠ "__name__" := by decide) (hd : (x == ("__debug__" : Str)) = false := by decide) : wpAny (model X.prog X.w) X.A (eval (.Name x pos) X.env) Q E s := by
  obtain ⟨mb, h1, h2⟩ := I.mod.blt
  exact Calls.Name_function_global I.ok.kind hg (Calls.loadGlobal_builtin (by rw [I.ok.glob]; exact I.mod.glob.keeps I.bk) hm (by rw [I.ok.blt]; exact h1.keeps I.bk) ((h2 x hn).trans hv) h) hd
theorem pe_glob {x : Str} {v : V} {u : Value} {pos : Pos} (hg : Gl X x) (hm : X.mg x = some u) (r : RelV v u) (hd : (x == ("__debug__" : Str)) = false := by decide) : PE X (.Name x pos) (tC v) :=
  fun _ _ _ H _ I h => ld_glob I hg hm ⟨v, H, I, r, h⟩ hd
theorem pe_bltn {x : Str} {v : V} {u : Value} {pos : Pos} (hg : Gl X x) (hm : X.mg x = none) (hv : bootBuiltins x = some u) (r : RelV v u) (hn : x ≠ "__name__" := by decide) (hd : (x == ("__debug__" : Str)) = false := by decide) : PE X (.Name x pos) (tC v) :=
  fun _ _ _ H _ I h => ld_blt I hg hm hv ⟨v, H, I, r, h⟩ hn hd

variable {a b : Expr} {ta tb : TE} {pos : Pos}
def tB (t : TE) : TT := fun σ H Q => t σ H fun x H1 => ∃ c, x = .bl c ∧ Q c H1
theorem pt_val {e : Expr} {t : TE} (h : PE X e t) (he : ∀ whole, isTrue e X.env whole = (do let v ← whole; standAt e.pos; holding [v] (truthy v)) := by intro _; rfl) : PT X e (tB t) := by
  intro pins s σ H Q I hw
  refine isTrue_plain (thn (h pins s σ H _ I hw) fun v s1 ⟨x, H1, I1, r1, q1⟩ => ?_) (he _)
  obtain ⟨d, rfl, q⟩ := q1
  cases r1
  exact wpAny_truthy_bool ⟨H1, I1, q⟩

variable {tA tB' : TT} {rest : List Expr}
def tAnd (t u : TT) : TT := fun σ H Q => t σ H fun c H1 => if c = true then u σ H1 Q else Q false H1
def tOr (t u : TT) : TT := fun σ H Q => t σ H fun c H1 => if c = true then Q true H1 else u σ H1 Q
def tNot (t : TT) : TT := fun σ H Q => t σ H fun c H1 => Q (!c) H1
theorem pw_and1 (ha : PT X a tA) : PW X (.BoolOp .And [a] pos) tA := by
  intro wh pins s σ H Q I h
  refine isTrue_and (thn (ha pins s σ H Q I h) fun c s1 e => ?_)
  cases c with
  | true => exact isTrue_and_nil e
  | false => exact e
theorem pw_or1 (ha : PT X a tA) : PW X (.BoolOp .Or [a] pos) tA := by
  intro wh pins s σ H Q I h
  refine isTrue_or (thn (ha pins s σ H Q I h) fun c s1 e => ?_)
  cases c with
  | false => exact isTrue_or_nil e
  | true => exact e
theorem pw_and (ha : PT X a tA) (hb : PW X (.BoolOp .And (b :: rest) pos) tB') : PW X (.BoolOp .And (a :: b :: rest) pos) (tAnd tA tB') := by
  intro wh pins s σ H Q I h
  refine isTrue_and (thn (ha pins s σ H _ I h) fun c s1 ⟨H1, I1, q1⟩ => ?_)
  cases c with
  | true => exact hb wh pins s1 σ H1 Q I1 q1
  | false => exact ⟨H1, I1, q1⟩
theorem pw_or (ha : PT X a tA) (hb : PW X (.BoolOp .Or (b :: rest) pos) tB') : PW X (.BoolOp .Or (a :: b :: rest) pos) (tOr tA tB') := by
  intro wh pins s σ H Q I h
  refine isTrue_or (thn (ha pins s σ H _ I h) fun c s1 ⟨H1, I1, q1⟩ => ?_)
  cases c with
  | true => exact ⟨H1, I1, q1⟩
  | false => exact hb wh pins s1 σ H1 Q I1 q1
theorem pt_not (ha : PT X a tA) : PT X (.UnaryOp .Not a pos) (tNot tA) := by
  intro pins s σ H Q I h
  exact isTrue_not (ha pins s σ H (fun c H1 => Q (!c) H1) I h)
def tAndV (ta tb : TE) : TE := fun σ H Q => ta σ H fun x H1 => ∃ c, x = .bl c ∧ if c = true then tb σ H1 Q else Q (.bl false) H1
def tOrV (ta tb : TE) : TE := fun σ H Q => ta σ H fun x H1 => ∃ c, x = .bl c ∧ if c = true then Q (.bl true) H1 else tb σ H1 Q
theorem pe_one {op} {t : TE} (h : PE X a t) : PE X (.BoolOp op [a] pos) t := fun pins s σ H Q I hw => BoolOp_one (h pins s σ H Q I hw)
theorem pe_and (ha : PE X a ta) (hb : PE X (.BoolOp .And (b :: rest) pos) tb) : PE X (.BoolOp .And (a :: b :: rest) pos) (tAndV ta tb) := by
  intro pins s σ H Q I h
  refine BoolOp_and (thn (ha pins s σ H _ I h) fun v s1 ⟨x, H1, I1, r1, q1⟩ => ?_)
  obtain ⟨c, rfl, q1⟩ := q1
  cases r1
  refine wpAny_truthy_bool ?_
  cases c with
  | true => exact hb pins s1 σ H1 Q I1 q1
  | false => exact ⟨.bl false, H1, I1, rfl, q1⟩
theorem pe_or (ha : PE X a ta) (hb : PE X (.BoolOp .Or (b :: rest) pos) tb) : PE X (.BoolOp .Or (a :: b :: rest) pos) (tOrV ta tb) := by
  intro pins s σ H Q I h
  refine BoolOp_or (thn (ha pins s σ H _ I h) fun v s1 ⟨x, H1, I1, r1, q1⟩ => ?_)
  obtain ⟨c, rfl, q1⟩ := q1
  cases r1
  refine wpAny_truthy_bool ?_
  cases c with
  | false => exact hb pins s1 σ H1 Q I1 q1
  | true => exact ⟨.bl true, H1, I1, rfl, q1⟩
end
end L2
namespace L2
open PySem PySem.Spec PyProof.Rows
def SqL (K : PySem.W.Frag) (H : Hp) (a : Addr) (xs : List V) : Prop :=
  Rd H a (.lst xs) ∨
    ∃ (o : Obj) (its : Array Value) (n : Nat), K.lookup a = some o ∧ o.cls = .type "list" ∧ o.dict = none ∧ o.data = .seq its n ∧ its.size ≤ sizeLine ∧ Vals xs its.toList
def SqT (K : PySem.W.Frag) (H : Hp) (a : Addr) (xs : List V) : Prop :=
  Rd H a (.tup xs) ∨
    ∃ (o : Obj) (its : Array Value) (n : Nat), K.lookup a = some o ∧ o.cls = .type "tuple" ∧ o.data = .seq its n ∧ its.size ≤ sizeLine ∧ Vals xs its.toList
def absV : Value → Option V
  | .none => some .non
  | .bool b => some (.bl b)
  | .int i _ => some (.int i)
  | .str x _ => some (.str x)
  | .bytes b _ => some (.byt b)
  | .float b _ => some (.flt b)
  | .ref a => some (.ref a)
  | .type n => some (.ty n)
  | _ => none
theorem RelV.abs {x : V} {u : Value} (r : RelV x u) : absV u = some x := by
  cases x with
  | non => cases r; rfl
  | bl _ => cases r; rfl
  | int _ => obtain ⟨t, rfl⟩ := r; rfl
  | str _ => obtain ⟨t, rfl⟩ := r; rfl
  | byt _ => obtain ⟨t, rfl⟩ := r; rfl
  | flt _ => obtain ⟨t, rfl⟩ := r; rfl
  | ref _ => cases r; rfl
  | ty _ => cases r; rfl
theorem RelV.inj {x y : V} {u : Value} (r : RelV x u) (q : RelV y u) : x = y := Option.some.inj (r.abs.symm.trans q.abs)
theorem Vals.inj : ∀ {xs ys : List V} {us : List Value}, Vals xs us → Vals ys us → xs = ys
  | _, _, _, .nil, .nil => rfl
  | _, _, _, .cons r t, .cons r' t' => by rw [r.inj r', Vals.inj t t']
section
variable {X : Cx} {pins : List (Addr × Obj)} {σ : St} {H : Hp} {s : Shared} {a : Addr} {xs ys : List V}
theorem SqL.of {K : PySem.W.Frag} (h : H a = some (.lst xs)) : SqL K H a xs := .inl (.inl h)
theorem SqT.of {K : PySem.W.Frag} (h : H a = some (.tup xs)) : SqT K H a xs := .inl (.inl h)
theorem Inv.list (I : Inv X pins σ H s) (h : SqL X.K H a xs) : ∃ its : List Value, Vals xs its ∧ PlainL s.heap a its.toArray ∧ xs.length ≤ sizeLine := by
  rcases h with h | ⟨o, its, n, hk, hc, hd, hs, hz, r⟩
  · obtain ⟨z, its, n, r, e⟩ := h.ok I.hok
    exact ⟨its, r, ⟨_, n, e, rfl, rfl, rfl⟩, z⟩
  · refine ⟨its.toList, r, ⟨o, n, I.kIn a o hk, hc, hd, by simpa using hs⟩, ?_⟩
    have e := r.length
    simp only [Array.length_toList] at e
    omega
theorem Inv.tuple (I : Inv X pins σ H s) (h : SqT X.K H a xs) : ∃ its : List Value, Vals xs its ∧ IsTup s.heap a its.toArray ∧ xs.length ≤ sizeLine := by
  rcases h with h | ⟨o, its, n, hk, hc, hs, hz, r⟩
  · obtain ⟨z, its, r, p⟩ := h.ok I.hok
    exact ⟨its, r, p, z⟩
  · refine ⟨its.toList, r, ⟨o, I.kIn a o hk, hc, n, by simpa using hs⟩, ?_⟩
    have e := r.length
    simp only [Array.length_toList] at e
    omega
theorem Inv.list_inj (I : Inv X pins σ H s) (h : SqL X.K H a xs) (h' : SqL X.K H a ys) : xs = ys := by
  obtain ⟨its, r, ⟨o, n, e, _, _, d⟩, _⟩ := I.list h
  obtain ⟨its', r', ⟨o', n', e', _, _, d'⟩, _⟩ := I.list h'
  rw [e] at e'; cases e'
  rw [d] at d'
  injection d' with d1 _
  have : its = its' := by simpa using congrArg Array.toList d1
  subst this
  exact r.inj r'
end
abbrev Cx.wish (X : Cx) (E : Value → Shared → Prop) : Cx := { X with xe := E }
abbrev Cx.nox (X : Cx) : Cx := X.wish fun _ _ => False
theorem Cx.Ok.wish {X : Cx} (ok : X.Ok) (E : Value → Shared → Prop) : (X.wish E).Ok :=
  ⟨ok.mod, ok.kind, ok.glob, ok.blt, ok.above, ok.inj, ok.has, ok.cab, ok.hd, ok.frames, ok.stk, ok.exf, ok.bs, ok.bsz, ok.noex, ok.exfs, ok.funs, ok.frf⟩
theorem Cx.Ok.unwish {X : Cx} {E : Value → Shared → Prop} (ok : (X.wish E).Ok) : X.Ok :=
  ⟨ok.mod, ok.kind, ok.glob, ok.blt, ok.above, ok.inj, ok.has, ok.cab, ok.hd, ok.frames, ok.stk, ok.exf, ok.bs, ok.bsz, ok.noex, ok.exfs, ok.funs, ok.frf⟩
section
variable {X : Cx} {pins : List (Addr × Obj)} {σ : St} {H : Hp} {s : Shared} {E : Value → Shared → Prop}
theorem Inv.wish (I : Inv X pins σ H s) (E : Value → Shared → Prop) : Inv (X.wish E) pins σ H s := ⟨I.ok.wish E, I.os, I.bare, I.base, I.loc, I.cell, I.free, I.freeC, I.pin, I.hok, I.len⟩
theorem Inv.unwish (I : Inv (X.wish E) pins σ H s) : Inv X pins σ H s := ⟨I.ok.unwish, I.os, I.bare, I.base, I.loc, I.cell, I.free, I.freeC, I.pin, I.hok, I.len⟩
theorem SP.unwish {D : Ends} {f : Flow} {s' : Shared} (h : SP (X.wish E) pins D f s') : SP X pins D f s' := by
  cases f with
  | next => obtain ⟨σ', H', I, q⟩ := h; exact ⟨σ', H', I.unwish, q⟩
  | brk => obtain ⟨σ', H', I, q⟩ := h; exact ⟨σ', H', I.unwish, q⟩
  | cont => obtain ⟨σ', H', I, q⟩ := h; exact ⟨σ', H', I.unwish, q⟩
  | ret u => obtain ⟨v, σ', H', I, r, q⟩ := h; exact ⟨v, σ', H', I.unwish, r, q⟩
theorem PE.nox {e : Expr} {t : TE} (h : PE X.nox e t) : PE X e t := fun pins s σ H Q I hw =>
  wpAny_mono (h pins s σ H Q (I.wish _) hw) (fun _ _ ⟨v, H', I', r, q⟩ => ⟨v, H', I'.unwish, r, q⟩) fun _ _ z => False.elim z
theorem PT.nox {e : Expr} {t : TT} (h : PT X.nox e t) : PT X e t := fun pins s σ H Q I hw =>
  wpAny_mono (h pins s σ H Q (I.wish _) hw) (fun _ _ ⟨H', I', q⟩ => ⟨H', I'.unwish, q⟩) fun _ _ z => False.elim z
theorem PSs.nox {st : List Stmt} {t : TS} (h : PSs X.nox st t) : PSs X st t := fun pins s σ H D I hw =>
  wpAny_mono (h pins s σ H D (I.wish _) hw) (fun _ _ q => q.unwish) fun _ _ z => False.elim z
end
section
variable {X : Cx} {st : Stmt} {rest : List Stmt} {t u : TS} {e : Expr} {te : TE} {pos : Pos}
def tNext : TS := fun D σ H => D.nx σ H
def tSeq (t u : TS) : TS := fun D σ H => t { D with nx := u D } σ H
theorem pss_nil : PSs X [] tNext := fun _ _ σ H _ I h => wpAny_execs_nil ⟨σ, H, I, h⟩
theorem pss_cons (h1 : PS X st t) (h2 : PSs X rest u) : PSs X (st :: rest) (tSeq t u) := by
  intro pins s σ H D I h
  refine wpAny_execs_cons (thn (h1 pins s σ H { D with nx := u D } I h) fun f s1 q => ?_)
  cases f with
  | next =>
    obtain ⟨σ', H', I', q⟩ := q
    exact h2 pins s1 σ' H' D I' q
  | ret v => exact q
  | brk => exact q
  | cont => exact q
theorem pss_one (h1 : PS X st t) : PSs X [st] t := by
  intro pins s σ H D I h
  refine wpAny_execs_cons (thn (h1 pins s σ H D I h) fun f s1 q => ?_)
  cases f with
  | next => exact wpAny_execs_nil q
  | ret v => exact q
  | brk => exact q
  | cont => exact q
theorem Inv.quiet {pins : List (Addr × Obj)} {σ : St} {H : Hp} {s : Shared} (I : Inv X pins σ H s) : interactive X.env = false := by simp [interactive, I.ok.kind]
def tDrop (te : TE) : TS := fun D σ H => te σ H fun _ H1 => D.nx σ H1
theorem ps_expr (he : PE X e te) (hs : swapsWith e none pos.line X.env = pure false := by rfl) : PS X (.Expr e pos) (tDrop te) := by
  intro pins s σ H D I h
  exact wpAny_Expr_any (thn (he pins s σ H _ I h) fun v s1 ⟨x, H1, I1, r1, q1⟩ => ⟨σ, H1, I1, q1⟩) I.quiet hs
def tRet (te : TE) : TS := fun D σ H => te σ H D.rt
theorem ps_ret (he : PE X e te) : PS X (.Return (some e) pos) (tRet te) := by
  intro pins s σ H D I h
  exact wpAny_Return_some (thn (he pins s σ H _ I h) fun v s1 ⟨x, H1, I1, r1, q1⟩ => ⟨x, σ, H1, I1, r1, q1⟩)
def tIfS (c : TT) (t u : TS) : TS := fun D σ H => c σ H fun b H1 => if b = true then t D σ H1 else u D σ H1
theorem ps_if {c : Expr} {a b : List Stmt} {tc : TT} (hc : PT X c tc) (ha : PSs X a t) (hb : PSs X b u) : PS X (.If c a b pos) (tIfS tc t u) := by
  intro pins s σ H D I h
  refine wpAny_If (thn (hc pins s σ H _ I h) fun d s1 ⟨H1, I1, q1⟩ => ?_)
  cases d with
  | true => exact ha pins s1 σ H1 D I1 q1
  | false => exact hb pins s1 σ H1 D I1 q1
def tNever : TS := fun _ _ _ => False
theorem ps_never : PS X st tNever := fun _ _ _ _ _ _ h => h.elim
end
abbrev TG := V → St → Hp → (St → Hp → Prop) → Prop
abbrev TGs := List V → St → Hp → (St → Hp → Prop) → Prop
def PG (X : Cx) (target : Expr) (t : TG) : Prop :=
  ∀ (pins : List (Addr × Obj)) (s : Shared) (σ : St) (H : Hp) (v : V) (u : Value) (Q : St → Hp → Prop), Inv X pins σ H s → RelV v u → t v σ H Q →
    wpAny (model X.prog X.w) X.A (assign target X.env u) (fun _ s' => ∃ σ' H', Inv X pins σ' H' s' ∧ Q σ' H') X.xe s
def PGs (X : Cx) (ts : List Expr) (t : TGs) : Prop :=
  ∀ (pins : List (Addr × Obj)) (s : Shared) (σ : St) (H : Hp) (vs : List V) (us : List Value) (Q : St → Hp → Prop), Inv X pins σ H s → Vals vs us → t vs σ H Q →
    wpAny (model X.prog X.w) X.A (assignInOrder ((assignEach ts X.env).map (·.2)) us) (fun _ s' => ∃ σ' H', Inv X pins σ' H' s' ∧ Q σ' H') X.xe s
abbrev TSet := V → V → V → Hp → (Hp → Prop) → Prop
def PSet (X : Cx) (t : TSet) : Prop :=
  ∀ (pins : List (Addr × Obj)) (s : Shared) (σ : St) (H : Hp) (o i v : V) (ov iv u : Value) (Q : Hp → Prop), Inv X pins σ H s → RelV o ov → RelV i iv → RelV v u → t o i v H Q →
    wpAny (model X.prog X.w) X.A (setItem ov iv u) (fun _ s' => ∃ H', Inv X pins σ H' s' ∧ Q H') X.xe s
section
variable {X : Cx} {pos : Pos}
def gName (i : Nat) : TG := fun v σ H Q => Q (σ.set i (some v)) H
theorem pg_name {i : Nat} {x : Str} (hN : X.N.Nodup) (hi : X.N[i]? = some x) (hx : Loc X.env.scope x) (hf : X.fn x = true ∨ X.env.scope.names.lookup x = some .local := by first | exact .inl rfl | exact .inr rfl | assumption) : PG X (.Name x pos) (gName i) := by
  intro pins s σ H v u Q I r h
  exact wpAny_assign_Name (store_ok I hN hi hx r (fun s' I' => ⟨_, H, I', h⟩) hf)
def gNil : TGs := fun vs σ H Q => vs = [] ∧ Q σ H
def gCons (t : TG) (u : TGs) : TGs := fun vs σ H Q => ∃ v r, vs = v :: r ∧ t v σ H fun σ' H' => u r σ' H' Q
theorem pgs_nil : PGs X [] gNil := by
  intro pins s σ H vs us Q I r h
  obtain ⟨e, h⟩ := h
  subst e
  cases r
  exact assignInOrder_nil ⟨σ, H, I, h⟩
theorem pgs_cons {e : Expr} {es : List Expr} {t : TG} {u : TGs} (h1 : PG X e t) (h2 : PGs X es u)
    (hs : (assignEach (e :: es) X.env).map (·.2) = assign e X.env :: (assignEach es X.env).map (·.2) := by rfl) : PGs X (e :: es) (gCons t u) := by
  intro pins s σ H vs us Q I r h
  obtain ⟨v, vr, e1, h⟩ := h
  subst e1
  cases r with
  | cons r rr =>
    rw [hs]
    refine assignInOrder_cons (thn (h1 pins s σ H _ _ _ I r h) fun _ s1 ⟨σ1, H1, I1, q1⟩ => ?_)
    exact h2 pins s1 σ1 H1 _ _ Q I1 rr q1
def gTup (K : PySem.W.Frag) (n : Nat) (t : TGs) : TG := fun v σ H Q => ∃ a xs, v = .ref a ∧ SqT K H a xs ∧ xs.length = n ∧ t xs σ H Q
theorem pg_tup {es : List Expr} {k : Nat} {t : TGs} {n : Nat} (hc : X.calm = true) (h : PGs X es t)
    (hn : (assignEach es X.env).length = n := by rfl) (hst : (assignEach es X.env).findIdx? (·.1) = none := by rfl) : PG X (.Tuple es k pos) (gTup X.K n t) := by
  intro pins s σ H v u Q I r hw
  obtain ⟨a, xs, e1, hq, hl, hw⟩ := hw
  subst e1
  cases r
  obtain ⟨its, rv, ht, hz⟩ := I.tuple hq
  refine assign_Tuple_tuple (I.ok.hd hc) ht (by simp [hn, ← hl, rv.length]) hst fun h' hx => ?_
  have I1 : Inv X pins σ H { s with heap := h' } := I.kept (t' := s.toks) fun b o e => hx b o (Nat.ne_of_lt (Heap.lt_size e)) e
  exact h pins _ σ H xs _ Q I1 (by simpa using rv) hw
def gSub (to ti : TE) (t : TSet) : TG := fun v σ H Q => to σ H fun o H1 => ti σ H1 fun i H2 => t o i v H2 fun H3 => Q σ H3
theorem pg_sub {o i : Expr} {to ti : TE} {t : TSet} (ho : PE X o to) (hi : PE X i ti) (hs : PSet X t)
    (ha : ∀ v, assign (.Subscript o i pos) X.env v = (do
      let ov ← holding [v] (eval o X.env)
      let iv ← holding [v, ov] (eval i X.env)
      standAt pos
      holding [v, ov, iv] (setItem ov iv v)
      release [v, ov, iv] []) := by intro _; rfl) : PG X (.Subscript o i pos) (gSub to ti t) := by
  intro pins s σ H v u Q I r h
  rw [ha]
  refine wpAny_bind (wpAny_holding (thn (ho pins s σ H _ I h) fun ov s1 ⟨x, H1, I1, r1, q1⟩ => ?_))
  refine wpAny_bind (wpAny_holding (thn (hi pins s1 σ H1 _ I1 q1) fun iv s2 ⟨y, H2, I2, r2, q2⟩ => ?_))
  refine wpAny_bind (wpAny_standAt (wpAny_bind (wpAny_holding (thn (hs pins s2 σ H2 x y v ov iv u _ I2 r1 r2 r q2) fun _ s3 ⟨H3, I3, q3⟩ => ?_))))
  exact wpAny_release ⟨σ, H3, I3, q3⟩
def tAsg (te : TE) (g : TG) : TS := fun D σ H => te σ H fun x H1 => g x σ H1 D.nx
theorem ps_asg {tg e : Expr} {te : TE} {g : TG} (he : PE X e te) (hg : PG X tg g) (hs : swapsWithSole [tg] e pos.line X.env = pure false := by rfl) (hw : swappedStores [tg] e X.env = pure none := by rfl)
    (h1 : (assignEach [tg] X.env).map (·.2) = [assign tg X.env] := by rfl) : PS X (.Assign [tg] e pos) (tAsg te g) := by
  intro pins s σ H D I h
  refine wpAny_Assign_stores (thn (he pins s σ H _ I h) fun v s1 ⟨x, H1, I1, r1, q1⟩ => ?_) hs hw
  rw [h1]
  exact thn (hg pins s1 σ H1 x v _ I1 r1 q1) fun _ s2 q => q
theorem ps_set {i : Nat} {x : Str} {e : Expr} {te : TE} {pos' : Pos} (hN : X.N.Nodup) (hi : X.N[i]? = some x) (hx : Loc X.env.scope x) (he : PE X e te) (hs : swapsWith e (some (.Name x pos')) pos.line X.env = pure false := by rfl) (hf : X.fn x = true ∨ X.env.scope.names.lookup x = some .local := by first | exact .inl rfl | exact .inr rfl | assumption) :
    PS X (.Assign [.Name x pos'] e pos) (tAsg te (gName i)) := by
  intro pins s σ H D I h
  refine wpAny_Assign_Name (thn (he pins s σ H _ I h) fun v s1 ⟨y, H1, I1, r1, q1⟩ => ?_) hs
  exact store_ok I1 hN hi hx r1 (fun s2 I2 => ⟨_, H1, I2, q1⟩) hf
end
section
variable {X : Cx} {pos : Pos}
def tWhile (c : TT) (tb : TS) : TS := fun D σ H => ∃ W : Nat → St → Hp → Prop, (∃ m, W m σ H) ∧ ∀ m σ H, W m σ H →
  c σ H fun b H1 => if b = true then ∃ N : St → Hp → Prop, (∀ σ' H', N σ' H' → ∃ m', m' < m ∧ W m' σ' H') ∧ tb { D with nx := N, ct := N, bk := D.nx } σ H1 else D.nx σ H1
theorem ps_while {c : Expr} {body : List Stmt} {tc : TT} {tb : TS} (hp : PassesOwn (model X.prog X.w) X.A X.env X.xe) (hc : PT X c tc) (hb : PSs X body tb) : PS X (.While c body [] pos) (tWhile tc tb) := by
  intro pins s σ H D I h
  obtain ⟨W, ⟨m0, w0⟩, turn⟩ := h
  refine wpAny_While (codeAny_whileLoop (fun n s' => ∃ σ' H', Inv X pins σ' H' s' ∧ W n σ' H') ?_ m0 ⟨σ, H, I, w0⟩)
  rintro n s1 ⟨σ1, H1, I1, w1⟩
  refine wpAny_passesOwn hp (thn (hc pins s1 σ1 H1 _ I1 (turn n σ1 H1 w1)) fun b s2 ⟨H2, I2, q2⟩ => ?_)
  cases b with
  | true =>
    obtain ⟨N, hN, q2⟩ := q2
    rw [if_pos rfl]
    refine wpAny_passesOwn hp (thn (hb pins s2 σ1 H2 _ I2 q2) fun f s3 q3 => ?_)
    cases f with
    | next =>
      obtain ⟨σ3, H3, I3, n3⟩ := q3
      obtain ⟨m', hm, w3⟩ := hN σ3 H3 n3
      exact ⟨m', hm, σ3, H3, I3, w3⟩
    | cont =>
      obtain ⟨σ3, H3, I3, n3⟩ := q3
      obtain ⟨m', hm, w3⟩ := hN σ3 H3 n3
      exact ⟨m', hm, σ3, H3, I3, w3⟩
    | brk => exact q3
    | ret v => exact q3
  | false =>
    rw [if_neg Bool.false_ne_true]
    exact wpAny_execs_nil ⟨σ1, H2, I2, q2⟩
end
structure It where
  go : Nat → Hp → Prop
  yld : Nat → Hp → V → Hp → Prop
  stop : Nat → Hp → Prop
def FpOk (X : Cx) (pins : List (Addr × Obj)) (H : Hp) (b : Addr) : Prop :=
  H b = none ∧ b ≠ X.env.locals ∧ b ∉ X.fs ∧ (b ∈ X.ex ∨ X.s₀.heap.objs.size ≤ b) ∧ (∀ x c, X.env.cells.lookup x = some c → c ≠ b) ∧ ∀ p ∈ X.pn ++ pins, p.1 ≠ b
theorem Inv.fpOk {X : Cx} {pins : List (Addr × Obj)} {σ : St} {H H' : Hp} {s : Shared} {b : Addr} (I : Inv X pins σ H s) (hb : s.heap.objs.size ≤ b) (hn : H' b = none) : FpOk X pins H' b := by
  refine ⟨hn, Nat.ne_of_gt (Nat.lt_of_lt_of_le I.lt hb), I.nofs hb, .inr (Nat.le_trans I.sz hb), fun x c e z => ?_, fun p hp z => ?_⟩
  · obtain ⟨v, q⟩ := I.cell x c e
    exact absurd (Nat.lt_of_lt_of_le q.lt (by rw [z]; exact hb)) (Nat.lt_irrefl _)
  · exact absurd (Nat.lt_of_lt_of_le (Heap.lt_size (I.pin p hp).1) (by rw [z]; exact hb)) (Nat.lt_irrefl _)
structure Turn (P : Program) (w : World) (K : PySem.W.Frag) (tg : Expr) (J : It) (fp : List Addr) (it : Addr) (tn : Nat → Heap → Prop) : Prop where
  mem : it ∈ fp
  obj : ∀ i h, tn i h → ∀ b ∈ fp, ∃ o, h.get? b = some o ∧ ∀ v, o.data ≠ .cell v
  keep : ∀ i h h', tn i h → (∀ b ∈ fp, ∀ o, h.get? b = some o → h'.get? b = some o) → tn i h'
  item : ∀ (X : Cx), X.prog = P → X.w = w → X.K = K → X.calm = true → ∀ (i : Nat) (pins : List (Addr × Obj)) (s : Shared) (σ : St) (H : Hp) (E : Value → Shared → Prop), Inv X pins σ H s → (∀ b ∈ fp, FpOk X pins H b) → tn i s.heap → J.go i H →
    wpAny (model P w) X.A (pyNext (.ref it)) (fun r s1 => ∃ u, r = some u ∧
      wpAny (model P w) X.A (letOwnedTupleGo tg (.ref it) u) (fun _ s2 => ∃ x H', Inv X pins σ H' s2 ∧ RelV x u ∧ J.yld i H x H' ∧ tn (i + 1) s2.heap ∧ ∀ b ∈ fp, H' b = none) E s1) E s
  done : ∀ (X : Cx), X.prog = P → X.w = w → X.K = K → X.calm = true → ∀ (i : Nat) (pins : List (Addr × Obj)) (s : Shared) (σ : St) (H : Hp) (E : Value → Shared → Prop), Inv X pins σ H s → (∀ b ∈ fp, FpOk X pins H b) → tn i s.heap → J.stop i H →
    wpAny (model P w) X.A (pyNext (.ref it)) (fun r s1 => r = none ∧ Inv X pins σ H s1) E s
  self : ∀ (A : Around) (i : Nat) (s : Shared) (Q : Value → Shared → Prop) (E : Value → Shared → Prop), tn i s.heap → Q (.ref it) s → wpAny (model P w) A (pyIter (.ref it)) Q E s
abbrev TI := St → Hp → (It → Hp → Prop) → Prop
def PIE (X : Cx) (pins : List (Addr × Obj)) (σ : St) (tg : Expr) (R : It → Hp → Prop) (itv : Value) (s2 : Shared) : Prop :=
  ∃ (it : Addr) (fp : List Addr) (tn : Nat → Heap → Prop) (J : It) (H' : Hp), itv = .ref it ∧ Inv X pins σ H' s2 ∧ Turn X.prog X.w X.K tg J fp it tn ∧ tn 0 s2.heap ∧ (∀ b ∈ fp, FpOk X pins H' b) ∧ R J H'
def PI (X : Cx) (tg iter : Expr) (wi : TI) : Prop :=
  ∀ (pins : List (Addr × Obj)) (s : Shared) (σ : St) (H : Hp) (R : It → Hp → Prop), Inv X pins σ H s → wi σ H R →
    wpAny (model X.prog X.w) X.A (eval iter X.env) (fun v s1 => wpAny (model X.prog X.w) X.A (pyIter v) (PIE X pins σ tg R) X.xe s1) X.xe s

theorem go_of {M : Model} {A : Around} {E : Value → Shared → Prop} {s : Shared} {tg : Expr} {it : Addr} {u : Value} {o : Obj} {n : String} {vs : Array Value} {Q : Unit → Shared → Prop} (ho : s.heap.get? it = some o) (hc : o.cls = .type n) (hd : o.data = .fields vs)
    (hn : ["enumerate", "zip", "dict_itemiterator", "dict_reverseitemiterator", "odict_iterator", "itertools.zip_longest", "itertools.pairwise"].contains n = false) (hQ : Q () s) : wpAny M A (letOwnedTupleGo tg (.ref it) u) Q E s := by
  unfold letOwnedTupleGo
  cases tg <;> first
    | exact wpAny_pure hQ
    | (cases u <;> first
        | exact wpAny_pure hQ
        | (refine wpAny_bind (wpAny_load ho ?_)
           rw [hc, hd]
           show wpAny M A (if (["enumerate", "zip", "dict_itemiterator", "dict_reverseitemiterator", "odict_iterator", "itertools.zip_longest", "itertools.pairwise"].contains n && vs[0]? == some (rawInt _)) = true then _ else _) Q E s
           rw [if_neg (by intro h; rw [hn, Bool.false_and] at h; cases h)]
           exact wpAny_pure hQ))

def Itl (K : PySem.W.Frag) (a : Addr) : It :=
  ⟨fun i H => ∃ xs x, SqL K H a xs ∧ xs[i]? = some x, fun i H x H' => H' = H ∧ ∀ xs, SqL K H a xs → xs[i]? = some x, fun i H => ∃ xs, SqL K H a xs ∧ xs.length ≤ i⟩
def Itr (lo : Int) (n : Nat) : It := ⟨fun i _ => i < n, fun i H x H' => H' = H ∧ x = .int (lo + i), fun i _ => n ≤ i⟩
theorem turn_list {P : Program} {w : World} {K : PySem.W.Frag} {tg : Expr} (a it : Addr) : Turn P w K tg (Itl K a) [it] it (fun i h => h.IsListIter it a i) where
  mem := by simp
  obj := fun i h st b hb => by
    have e : b = it := by simpa using hb
    subst e
    obtain ⟨o, e, c, d⟩ := st
    exact ⟨o, e, fun v z => by rw [d] at z; cases z⟩
  keep := fun i h h' st k => st.at fun o e => k it (by simp) o e
  item := by
    intro X hP hw hK hc i pins s σ H E I hf st hg
    subst hP hw hK
    obtain ⟨xs, x, hq, hx⟩ := hg
    obtain ⟨its, rv, p, hz⟩ := I.list hq
    obtain ⟨u, hu, ru⟩ := rv.get hx
    obtain ⟨f0, f1, f2, f3, f4, f5⟩ := hf it (by simp)
    refine wpAny_pyNext_list_item st p.isList (x := u) (by simpa using hu) fun h' st' sb => ?_
    have I1 : Inv X pins σ H { s with heap := h' } := I.turned (t' := s.toks) (fun b o hb e => (sb.2 b hb).trans e) f0 f1 f3 f4 f5
    obtain ⟨o, e, c, d⟩ := id st'
    exact ⟨u, rfl, go_of (s := { s with heap := h' }) e c d (by decide) ⟨x, H, I1, ru, ⟨rfl, fun ys hy => by rw [I.list_inj hy hq]; exact hx⟩, st', fun b hb => (hf b hb).1⟩⟩
  done := by
    intro X hP hw hK hc i pins s σ H E I hf st hg
    subst hP hw hK
    obtain ⟨xs, hq, hx⟩ := hg
    obtain ⟨its, rv, p, hz⟩ := I.list hq
    obtain ⟨f0, f1, f2, f3, f4, f5⟩ := hf it (by simp)
    have hl := rv.length
    exact wpAny_pyNext_list_end (I.ok.hd hc) st p.isList (by simp; omega) fun h' eb => ⟨rfl, I.turned (t' := s.toks) (fun b o hb e => eb b o hb e) f0 f1 f3 f4 f5⟩
  self := fun _ _ _ _ _ st h => wpAny_pyIter_listiter st h
theorem turn_range {P : Program} {w : World} {K : PySem.W.Frag} {tg : Expr} (it : Addr) (lo : Int) (n : Nat) : Turn P w K tg (Itr lo n) [it] it (fun i h => IsRangeIter h it (lo + (i : Nat) * 1) ((n : Int) - (i : Nat)) 1) where
  mem := by simp
  obj := fun i h st b hb => by
    have e : b = it := by simpa using hb
    subst e
    exact ⟨_, st, fun v z => by
      have z' : Data.fields _ = Data.cell v := z
      cases z'⟩
  keep := fun i h h' st k => k it (by simp) _ st
  item := by
    intro X hP hw hK hc i pins s σ H E I hf st hg
    subst hP hw hK
    obtain ⟨f0, f1, f2, f3, f4, f5⟩ := hf it (by simp)
    have W := Walks.range (prog := X.prog) (w := X.w) (I.ok.hd hc) it lo 1 n
    refine W.item i s _ _ hg st fun v h' tk hv st' kk => ?_
    obtain ⟨t, rfl⟩ := hv
    have I1 : Inv X pins σ H { s with heap := h', toks := tk } := I.turned (fun b o hb e => kk b o (by simpa using hb) e) f0 f1 f3 f4 f5
    refine ⟨_, rfl, go_of (s := { s with heap := h', toks := tk }) (n := "range_iterator") st' rfl rfl (by decide) ⟨.int (lo + i), H, I1, ⟨t, ?_⟩, ⟨rfl, rfl⟩, st', fun b hb => (hf b hb).1⟩⟩
    rw [Int.mul_one]
  done := by
    intro X hP hw hK hc i pins s σ H E I hf st hg
    subst hP hw hK
    obtain ⟨f0, f1, f2, f3, f4, f5⟩ := hf it (by simp)
    exact wpAny_pyNext_range_end (I.ok.hd hc) st (by have : n ≤ i := hg; omega) fun h' eb => ⟨rfl, I.turned (t' := s.toks) (fun b o hb e => eb b o hb e) f0 f1 f3 f4 f5⟩
  self := fun _ _ _ _ _ st h => wpAny_pyIter_rangeiter st h
end L2
namespace L2
open PySem PySem.Spec PyProof.Rows
section
variable {X : Cx} {tg : Expr}
def iList (K : PySem.W.Frag) (tl : TE) : TI := fun σ H R => tl σ H fun x H1 => ∃ a, x = .ref a ∧ (∃ xs, SqL K H1 a xs) ∧ R (Itl K a) H1
theorem pi_list {l : Expr} {tl : TE} (hl : PE X l tl) : PI X tg l (iList X.K tl) := by
  intro pins s σ H R I h
  refine thn (hl pins s σ H _ I h) fun v s1 ⟨x, H1, I1, r1, q1⟩ => ?_
  obtain ⟨a, e, ⟨xs, hq⟩, q⟩ := q1
  subst e
  cases r1
  obtain ⟨its, rv, p, hz⟩ := I1.list hq
  refine wpAny_pyIter_list p.isList ?_
  refine ⟨s1.heap.objs.size, [s1.heap.objs.size], _, _, H1, rfl, I1.kept (t' := s1.toks) fun b o e => Heap.get?_push_of_some _ e, turn_list a _, ⟨_, Heap.get?_push_size _ rfl, rfl, rfl⟩, fun b hb => ?_, q⟩
  have e : b = s1.heap.objs.size := by simpa using hb
  subst e
  exact I1.fpOk (Nat.le_refl _) (I1.hok.fresh (Nat.le_refl _))
theorem range_it {pins : List (Addr × Obj)} {σ : St} {H : Hp} {s : Shared} {R : It → Hp → Prop} {E : Value → Shared → Prop} {lo hi : Int} {t u v : Tok} {tk : Nat} (I : Inv X pins σ H s) (h1 : -(2 ^ 62) ≤ lo) (h2 : lo < 2 ^ 62) (h3 : -(2 ^ 62) ≤ hi) (h4 : hi < 2 ^ 62)
    (q : R (Itr lo (hi - lo).toNat) H) : wpAny (model X.prog X.w) X.A (pyIter (.ref s.heap.objs.size)) (PIE X pins σ tg R) E { s with heap := s.heap.push { cls := .type "range", data := .fields #[.int lo t, .int hi u, .int 1 v] }, toks := tk } := by
  refine wpAny_pyIter_range (IsRange.new ..) (small_one h1 h2 h3 h4) ?_
  have I1 : Inv X pins σ H { s with heap := s.heap.push { cls := .type "range", data := .fields #[.int lo t, .int hi u, .int 1 v] }, toks := tk } := I.kept fun b o e => Heap.get?_push_of_some _ e
  refine ⟨(s.heap.push { cls := .type "range", data := .fields #[.int lo t, .int hi u, .int 1 v] }).objs.size, [(s.heap.push { cls := .type "range", data := .fields #[.int lo t, .int hi u, .int 1 v] }).objs.size], _, _, H, rfl,
    I1.kept (t' := tk) fun b o e => Heap.get?_push_of_some _ e, turn_range _ lo (hi - lo).toNat, ?_, fun b hb => ?_, q⟩
  · have e1 : lo + ((0 : Nat) : Int) * 1 = lo := by simp
    have e2 : (((hi - lo).toNat : Nat) : Int) - ((0 : Nat) : Int) = Builtin.Range.rangeSize lo hi 1 := by rw [rangeSize_one]; split <;> omega
    show IsRangeIter _ _ (lo + ((0 : Nat) : Int) * 1) ((((hi - lo).toNat : Nat) : Int) - ((0 : Nat) : Int)) 1
    rw [e1, e2]
    exact Heap.get?_push_size _ rfl
  · have e : b = (s.heap.push { cls := .type "range", data := .fields #[.int lo t, .int hi u, .int 1 v] }).objs.size := by simpa using hb
    subst e
    exact I1.fpOk (Nat.le_refl _) (I1.hok.fresh (Nat.le_refl _))
def iRng1 (ta : TA) : TI := fun σ H R => ta σ H fun vs H1 => ∃ j : Int, vs = [.int j] ∧ -(2 ^ 62) ≤ j ∧ j < 2 ^ 62 ∧ R (Itr 0 j.toNat) H1
def iRng2 (ta : TA) : TI := fun σ H R => ta σ H fun vs H1 => ∃ i j : Int, vs = [.int i, .int j] ∧ (-(2 ^ 62) ≤ i ∧ i < 2 ^ 62 ∧ -(2 ^ 62) ≤ j ∧ j < 2 ^ 62) ∧ R (Itr i (j - i).toNat) H1
theorem pi_range1 {a : Expr} {ta : TA} {p pos : Pos} (hg : Gl X "range") (hm : X.mg "range" = none) (ha : PA X [a] ta) (hs : starEach [a] X.env = [(false, eval a X.env)] := by rfl) : PI X tg (.Call (.Name "range" p) [a] [] pos) (iRng1 ta) := by
  intro pins s σ H R I h
  refine Call_ (ld_blt I hg hm boot_range (PyProof.Rows.callWith_type1 (thn (ha pos pins s σ H _ I h) fun us s1 ⟨vs, H1, I1, r1, q1⟩ => ?_) hs rfl))
  obtain ⟨j, e, q1, q2, q⟩ := q1
  subst e
  cases r1 with
  | cons r rr =>
    cases rr
    obtain ⟨t, rfl⟩ := r
    exact call_range_1 (range_it I1 (by omega) (by omega) q1 q2 (by simpa using q))
theorem pi_range2 {a b : Expr} {ta : TA} {p pos : Pos} (hg : Gl X "range") (hm : X.mg "range" = none) (ha : PA X [a, b] ta) (hs : starEach [a, b] X.env = [(false, eval a X.env), (false, eval b X.env)] := by rfl) (hs2 : starEach [b] X.env = [(false, eval b X.env)] := by rfl) :
    PI X tg (.Call (.Name "range" p) [a, b] [] pos) (iRng2 ta) := by
  intro pins s σ H R I h
  refine Call_ (ld_blt I hg hm boot_range (PyProof.Rows.callWith_type1 (thn (ha pos pins s σ H _ I h) fun us s1 ⟨vs, H1, I1, r1, q1⟩ => ?_) (by rw [hs, hs2]) (by rw [hs2]; rfl)))
  obtain ⟨i, j, e, ⟨q1, q2, q3, q4⟩, q⟩ := q1
  subst e
  cases r1 with
  | cons r rr =>
    cases rr with
    | cons r' rr =>
      cases rr
      obtain ⟨t, rfl⟩ := r
      obtain ⟨t', rfl⟩ := r'
      exact call_range_2 (range_it I1 q1 q2 q3 q4 q)

def tFor (wi : TI) (g : TG) (tb : TS) : TS := fun D σ H => wi σ H fun J H1 => ∃ W : Nat → Nat → St → Hp → Prop, (∃ m, W 0 m σ H1) ∧ ∀ i m σ H, W i m σ H →
  (J.stop i H ∧ D.nx σ H) ∨ (J.go i H ∧ ∃ N : St → Hp → Prop, (∀ σ' H', N σ' H' → ∃ m', m' < m ∧ W (i + 1) m' σ' H') ∧ ∀ x H', J.yld i H x H' → g x σ H' fun σ2 H2 => tb { D with nx := N, ct := N, bk := D.nx } σ2 H2)
def pinsAt (fp : List Addr) (h : Heap) : List (Addr × Obj) := fp.filterMap fun b => (h.get? b).map fun o => (b, o)
theorem mem_pinsAt {fp : List Addr} {h : Heap} {b : Addr} {o : Obj} (hb : b ∈ fp) (e : h.get? b = some o) : (b, o) ∈ pinsAt fp h := List.mem_filterMap.mpr ⟨b, hb, by rw [e]; rfl⟩
theorem of_pinsAt {fp : List Addr} {h : Heap} {p : Addr × Obj} (hp : p ∈ pinsAt fp h) : p.1 ∈ fp ∧ h.get? p.1 = some p.2 := by
  obtain ⟨b, hb, e⟩ := List.mem_filterMap.mp hp
  cases q : h.get? b with
  | none => rw [q] at e; cases e
  | some o =>
    rw [q] at e
    have e' : (b, o) = p := Option.some.inj e
    subst e'
    exact ⟨hb, q⟩
theorem Inv.pinned {pins : List (Addr × Obj)} {σ : St} {H : Hp} {s : Shared} {fp : List Addr} (I : Inv X pins σ H s) (hf : ∀ b ∈ fp, FpOk X pins H b) (ho : ∀ b ∈ fp, ∃ o, s.heap.get? b = some o ∧ ∀ v, o.data ≠ .cell v) : Inv X (pins ++ pinsAt fp s.heap) σ H s :=
  I.pins_of fun p hp => (List.mem_append.mp hp).elim (fun z => I.pin p (List.mem_append_right _ z)) fun z => by
    obtain ⟨hb, e⟩ := of_pinsAt z
    obtain ⟨f0, f1, f2, _⟩ := hf p.1 hb
    obtain ⟨o, e', d⟩ := ho p.1 hb
    rw [e] at e'; cases e'
    exact ⟨e, f0, f1, f2, d⟩
theorem Inv.unpinned {pins pl : List (Addr × Obj)} {σ : St} {H : Hp} {s : Shared} (I : Inv X (pins ++ pl) σ H s) : Inv X pins σ H s := I.pins_of fun p hp => I.pin p (List.mem_append_right _ (List.mem_append_left _ hp))
theorem ps_for {iter : Expr} {body : List Stmt} {wi : TI} {g : TG} {tb : TS} {pos : Pos} (hp : PassesOwn (model X.prog X.w) X.A X.env X.xe) (hc : X.calm = true) (hi : PI X tg iter wi) (hg : PG X tg g) (hb : PSs X body tb)
    (hs : ∀ x, foldedSetIterable iter X.env x = pure x := by intro _; rfl) : PS X (.For tg iter body [] pos) (tFor wi g tb) := by
  intro pins s σ H D I h
  refine wpAny_For (thn (hi pins s σ H _ I h) fun v s1 h1 => thn h1 fun itv s2 h2 => ?_) hs
  obtain ⟨it, fp, tn, J, H2, e, I2, T, st2, f2, W, ⟨m0, w0⟩, turn⟩ := h2
  subst e
  -- what stays true of the iterator's objects through the loop
  have stat : ∀ {H' : Hp}, (∀ b ∈ fp, H' b = none) → ∀ b ∈ fp, FpOk X pins H' b := fun hn b hb => ⟨hn b hb, (f2 b hb).2⟩
  refine codeAny_forLoop_any (fun n s' => ∃ i σ' H', Inv X pins σ' H' s' ∧ tn i s'.heap ∧ (∀ b ∈ fp, H' b = none) ∧ W i n σ' H') ?_ m0 ⟨0, σ, H2, I2, st2, fun b hb => (f2 b hb).1, w0⟩
  rintro n s3 ⟨i, σ3, H3, I3, st3, fr3, w3⟩
  rcases turn i n σ3 H3 w3 with ⟨stop, qn⟩ | ⟨go, N, hN, step⟩
  · refine wpAny_passesOwn hp (thn (T.done X rfl rfl rfl hc i pins s3 σ3 H3 X.xe I3 (stat fr3) st3 stop) fun r s4 ⟨hr, I4⟩ => ?_)
    subst hr
    exact wpAny_execs_nil ⟨σ3, H3, I4, qn⟩
  · refine wpAny_passesOwn hp (thn (T.item X rfl rfl rfl hc i pins s3 σ3 H3 X.xe I3 (stat fr3) st3 go) fun r s4 ⟨u, hr, h4⟩ => ?_)
    subst hr
    refine wpAny_passesOwn hp (thn h4 fun _ s5 ⟨x, H5, I5, r5, y5, st5, fr5⟩ => ?_)
    have I5' := I5.pinned (stat fr5) (T.obj _ _ st5)
    refine wpAny_passesOwn hp (thn (hg _ s5 σ3 H5 x u _ I5' r5 (step x H5 y5)) fun _ s6 ⟨σ6, H6, I6, q6⟩ => ?_)
    refine wpAny_passesOwn hp (thn (hb _ s6 σ6 H6 _ I6 q6) fun f s7 q7 => ?_)
    have again : ∀ {σ7 : St} {H7 : Hp}, Inv X (pins ++ pinsAt fp s5.heap) σ7 H7 s7 → N σ7 H7 → ∃ m, m < n ∧ ∃ i σ' H', Inv X pins σ' H' s7 ∧ tn i s7.heap ∧ (∀ b ∈ fp, H' b = none) ∧ W i m σ' H' := fun {σ7 H7} I7 n7 => by
      obtain ⟨m', hm, w7⟩ := hN σ7 H7 n7
      refine ⟨m', hm, i + 1, σ7, H7, I7.unpinned, T.keep _ _ _ st5 fun b hb o e => (I7.pin (b, o) (List.mem_append_right _ (List.mem_append_right _ (mem_pinsAt hb e)))).1, fun b hb => ?_, w7⟩
      obtain ⟨o, e, d⟩ := T.obj _ _ st5 b hb
      exact (I7.pin (b, o) (List.mem_append_right _ (List.mem_append_right _ (mem_pinsAt hb e)))).2.1
    cases f with
    | next => obtain ⟨σ7, H7, I7, n7⟩ := q7; exact again I7 n7
    | cont => obtain ⟨σ7, H7, I7, n7⟩ := q7; exact again I7 n7
    | brk => obtain ⟨σ7, H7, I7, q7⟩ := q7; exact ⟨σ7, H7, I7.unpinned, q7⟩
    | ret v => obtain ⟨x7, σ7, H7, I7, r7, q7⟩ := q7; exact ⟨x7, σ7, H7, I7.unpinned, r7, q7⟩
end
theorem for_list {K : PySem.W.Frag} {a : Addr} {xs : List V} {g : TG} {tb : TS} {D : Ends} {σ : St} {H : Hp} (Pv : Nat → St → Hp → Prop) (h0 : Pv 0 σ H) (hl : ∀ i σ H, i ≤ xs.length → Pv i σ H → SqL K H a xs)
    (hs : ∀ i x σ H, xs[i]? = some x → Pv i σ H → g x σ H fun σ2 H2 => tb { D with nx := Pv (i + 1), ct := Pv (i + 1), bk := D.nx } σ2 H2) (hd : ∀ σ H, Pv xs.length σ H → D.nx σ H) :
    ∃ W : Nat → Nat → St → Hp → Prop, (∃ m, W 0 m σ H) ∧ ∀ i m σ H, W i m σ H →
      ((Itl K a).stop i H ∧ D.nx σ H) ∨ ((Itl K a).go i H ∧ ∃ N : St → Hp → Prop, (∀ σ' H', N σ' H' → ∃ m', m' < m ∧ W (i + 1) m' σ' H') ∧ ∀ x H', (Itl K a).yld i H x H' → g x σ H' fun σ2 H2 => tb { D with nx := N, ct := N, bk := D.nx } σ2 H2) := by
  refine ⟨fun i m σ H => m = xs.length - i ∧ i ≤ xs.length ∧ Pv i σ H, ⟨xs.length, by simp, Nat.zero_le _, h0⟩, ?_⟩
  rintro i m σ H ⟨rfl, hi, p⟩
  have q := hl i σ H hi p
  by_cases hlt : i < xs.length
  · refine .inr ⟨⟨xs, xs[i], q, by simp [hlt]⟩, Pv (i + 1), fun σ' H' p' => ⟨xs.length - (i + 1), by omega, rfl, hlt, p'⟩, fun x H' y => ?_⟩
    obtain ⟨e, y⟩ := y
    subst e
    exact hs i x σ _ (y xs q) p
  · have e : i = xs.length := by omega
    subst e
    exact .inl ⟨⟨xs, q, Nat.le_refl _⟩, hd σ H p⟩
theorem for_range {lo : Int} {n : Nat} {g : TG} {tb : TS} {D : Ends} {σ : St} {H : Hp} (Pv : Nat → St → Hp → Prop) (h0 : Pv 0 σ H)
    (hs : ∀ i σ H, i < n → Pv i σ H → g (.int (lo + i)) σ H fun σ2 H2 => tb { D with nx := Pv (i + 1), ct := Pv (i + 1), bk := D.nx } σ2 H2) (hd : ∀ σ H, Pv n σ H → D.nx σ H) :
    ∃ W : Nat → Nat → St → Hp → Prop, (∃ m, W 0 m σ H) ∧ ∀ i m σ H, W i m σ H →
      ((Itr lo n).stop i H ∧ D.nx σ H) ∨ ((Itr lo n).go i H ∧ ∃ N : St → Hp → Prop, (∀ σ' H', N σ' H' → ∃ m', m' < m ∧ W (i + 1) m' σ' H') ∧ ∀ x H', (Itr lo n).yld i H x H' → g x σ H' fun σ2 H2 => tb { D with nx := N, ct := N, bk := D.nx } σ2 H2) := by
  refine ⟨fun i m σ H => m = n - i ∧ i ≤ n ∧ Pv i σ H, ⟨n, by simp, Nat.zero_le _, h0⟩, ?_⟩
  rintro i m σ H ⟨rfl, hi, p⟩
  by_cases hlt : i < n
  · refine .inr ⟨hlt, Pv (i + 1), fun σ' H' p' => ⟨n - (i + 1), by omega, rfl, hlt, p'⟩, fun x H' y => ?_⟩
    obtain ⟨e, y⟩ := y
    subst e y
    exact hs i σ _ hlt p
  · have e : i = n := by omega
    subst e
    exact .inl ⟨Nat.le_refl _, hd σ H p⟩
end L2
namespace L2
open PySem PySem.Spec PyProof.Rows
abbrev R2 := V → V → Hp → VK → Prop
def OpR (X : Cx) (f : Value → Value → Sem Value) (r : R2) : Prop :=
  ∀ (pins : List (Addr × Obj)) (s : Shared) (σ : St) (H : Hp) (x y : V) (v u : Value) (Q : VK), Inv X pins σ H s → RelV x v → RelV y u → r x y H Q →
    wpAny (model X.prog X.w) X.A (f v u) (EP X pins σ Q) X.xe s
def UnR (X : Cx) (f : Value → Sem Value) (r : V → Hp → VK → Prop) : Prop :=
  ∀ (pins : List (Addr × Obj)) (s : Shared) (σ : St) (H : Hp) (x : V) (v : Value) (Q : VK), Inv X pins σ H s → RelV x v → r x H Q →
    wpAny (model X.prog X.w) X.A (f v) (EP X pins σ Q) X.xe s
def CallR (X : Cx) (f : Value) (r : List V → Hp → VK → Prop) : Prop :=
  ∀ (pins : List (Addr × Obj)) (s : Shared) (σ : St) (H : Hp) (xs : List V) (us : List Value) (Q : VK), Inv X pins σ H s → Vals xs us → r xs H Q →
    wpAny (model X.prog X.w) X.A (call f us) (EP X pins σ Q) X.xe s
def tOp (r : R2) (ta tb : TE) : TE := fun σ H Q => ta σ H fun x H1 => tb σ H1 fun y H2 => r x y H2 Q
def tUn (r : V → Hp → VK → Prop) (ta : TE) : TE := fun σ H Q => ta σ H fun x H1 => r x H1 Q
def rI (C : Int → Int → Prop) (g : Int → Int → V) : R2 := fun x y H Q => ∃ i j, x = .int i ∧ y = .int j ∧ C i j ∧ Q (g i j) H
def rI0 (g : Int → Int → V) : R2 := fun x y H Q => ∃ i j, x = .int i ∧ y = .int j ∧ Q (g i j) H
def rU (g : Int → V) : V → Hp → VK → Prop := fun x H Q => ∃ i, x = .int i ∧ Q (g i) H

section
variable {X : Cx} {a b c : Expr} {ta tb tc : TE} {pos : Pos}
theorem binT (ha : PE X a ta) (hb : PE X b tb) {pins : List (Addr × Obj)} {s : Shared} {σ : St} {H : Hp} {R : V → V → Hp → Prop} (I : Inv X pins σ H s)
    (h : ta σ H fun x H1 => tb σ H1 fun y H2 => R x y H2) {Q : Value → Shared → Prop} {f : Value → Value → Sem Value}
    (hf : ∀ v u s2 x y H2, Inv X pins σ H2 s2 → RelV x v → RelV y u → R x y H2 → wpAny (model X.prog X.w) X.A (f v u) Q X.xe s2) :
    wpAny (model X.prog X.w) X.A (eval a X.env) (fun v s₁ => wpAny (model X.prog X.w) X.A (eval b X.env) (fun u s₂ => wpAny (model X.prog X.w) X.A (f v u) Q X.xe s₂) X.xe s₁) X.xe s := by
  refine thn (ha pins s σ H _ I h) fun v s1 ⟨x, H1, I1, r1, q1⟩ => ?_
  refine thn (hb pins s1 σ H1 _ I1 q1) fun u s2 ⟨y, H2, I2, r2, q2⟩ => ?_
  exact hf v u s2 x y H2 I2 r1 r2 q2

theorem pe_op {op : Operator} {r : R2} (ho : OpR X (binaryOp op) r) (ha : PE X a ta) (hb : PE X b tb) : PE X (.BinOp a op b pos) (tOp r ta tb) := by
  intro pins s σ H Q I h
  exact wpAny_BinOp (binT ha hb I h fun v u s2 x y H2 I2 rx ry q => ho pins s2 σ H2 x y v u Q I2 rx ry q)
theorem pe_un {op : UnaryOp} {r : V → Hp → VK → Prop} (ho : UnR X (unaryOp op) r) (ha : PE X a ta) : PE X (.UnaryOp op a pos) (tUn r ta) := by
  intro pins s σ H Q I h
  exact UnaryOp_ (thn (ha pins s σ H _ I h) fun v s1 ⟨x, H1, I1, r1, q1⟩ => ho pins s1 σ H1 x v Q I1 r1 q1)
theorem opI {f : Value → Value → Sem Value} {C : Int → Int → Prop} {g : Int → Int → Int}
    (rule : ∀ (i j : Int) (t u : Tok) (s : Shared) (Q : Value → Shared → Prop) (E : Value → Shared → Prop), C i j → Q (.int (g i j) s.toks) { s with toks := s.toks + 1 } → wpAny (model X.prog X.w) X.A (f (.int i t) (.int j u)) Q E s) :
    OpR X f (rI C fun i j => .int (g i j)) := by
  intro pins s σ H x y v u Q I rx ry h
  obtain ⟨i, j, rfl, rfl, hc, q⟩ := h
  obtain ⟨t, rfl⟩ := rx
  obtain ⟨t', rfl⟩ := ry
  exact rule i j t t' s _ _ hc ⟨.int (g i j), H, I.tok _, ⟨_, rfl⟩, q⟩
theorem opI0 {f : Value → Value → Sem Value} {g : Int → Int → Int}
    (rule : ∀ (i j : Int) (t u : Tok) (s : Shared) (Q : Value → Shared → Prop) (E : Value → Shared → Prop), Q (.int (g i j) s.toks) { s with toks := s.toks + 1 } → wpAny (model X.prog X.w) X.A (f (.int i t) (.int j u)) Q E s) :
    OpR X f (rI0 fun i j => .int (g i j)) := by
  intro pins s σ H x y v u Q I rx ry h
  obtain ⟨i, j, rfl, rfl, q⟩ := h
  obtain ⟨t, rfl⟩ := rx
  obtain ⟨t', rfl⟩ := ry
  exact rule i j t t' s _ _ ⟨.int (g i j), H, I.tok _, ⟨_, rfl⟩, q⟩
theorem opB0 {f : Value → Value → Sem Value} {g : Int → Int → Bool}
    (rule : ∀ (i j : Int) (t u : Tok) (s : Shared) (Q : Value → Shared → Prop) (E : Value → Shared → Prop), Q (.bool (g i j)) s → wpAny (model X.prog X.w) X.A (f (.int i t) (.int j u)) Q E s) :
    OpR X f (rI0 fun i j => .bl (g i j)) := by
  intro pins s σ H x y v u Q I rx ry h
  obtain ⟨i, j, rfl, rfl, q⟩ := h
  obtain ⟨t, rfl⟩ := rx
  obtain ⟨t', rfl⟩ := ry
  exact rule i j t t' s _ _ ⟨.bl (g i j), H, I, rfl, q⟩

def CPow (i j : Int) : Prop := 0 ≤ j ∧ j ≤ 1000000 ∧ i.natAbs < 2 ^ 64
def CMul (i j : Int) : Prop := (-(2 ^ 64) < i ∧ i < 2 ^ 64) ∨ (-(2 ^ 64) < j ∧ j < 2 ^ 64)
theorem CMul.ok {i j : Int} (h : CMul i j) : IntMulOk i j := by
  rcases h with ⟨h1, h2⟩ | ⟨h1, h2⟩
  · exact .of_left (intBits_le_64 h1 h2)
  · exact .of_right (intBits_le_64 h1 h2)
theorem op_add : OpR X (binaryOp .Add) (rI0 fun i j => .int (i + j)) := opI0 fun _ _ _ _ _ _ _ q => add_int q
theorem op_sub : OpR X (binaryOp .Sub) (rI0 fun i j => .int (i - j)) := opI0 fun _ _ _ _ _ _ _ q => sub_int q
theorem op_mod : OpR X (binaryOp .Mod) (rI (fun _ j => 0 < j) fun i j => .int (i % j)) := opI fun i j _ _ _ _ _ hc q => by
  have h1 : (0 : Int) < j := hc
  exact mod_int' (by omega) (by rw [Int.fmod_eq_emod_of_nonneg i (by omega)]; exact q)
theorem op_pow : OpR X (binaryOp .Pow) (rI CPow fun i j => .int (i ^ j.toNat)) := opI fun _ _ _ _ _ _ _ hc q => pow_int_small hc.1 hc.2.1 hc.2.2 q
theorem unI {f : Value → Sem Value} {g : Int → Int}
    (rule : ∀ (i : Int) (t : Tok) (s : Shared) (Q : Value → Shared → Prop) (E : Value → Shared → Prop), Q (.int (g i) s.toks) { s with toks := s.toks + 1 } → wpAny (model X.prog X.w) X.A (f (.int i t)) Q E s) :
    UnR X f (rU fun i => .int (g i)) := by
  intro pins s σ H x v Q I rx h
  obtain ⟨i, rfl, q⟩ := h
  obtain ⟨t, rfl⟩ := rx
  exact rule i t s _ _ ⟨.int (g i), H, I.tok _, ⟨_, rfl⟩, q⟩
theorem un_neg : UnR X (unaryOp .USub) (rU fun i => .int (-i)) := unI fun _ _ _ _ _ q => neg_int q
end
def scal : V → V → Bool
  | .non, .non => true | .non, .int _ => true | .int _, .non => true | .non, .bl _ => true | .bl _, .non => true | .non, .str _ => true | .str _, .non => true
  | .int _, .int _ => true | .bl _, .bl _ => true | .str _, .str _ => true | .byt _, .byt _ => true
  | .int _, .str _ => true | .str _, .int _ => true | .bl _, .str _ => true | .str _, .bl _ => true
  | _, _ => false
def rEq : R2 := fun x y H Q => scal x y = true ∧ Q (.bl (decide (x = y))) H
def rNe : R2 := fun x y H Q => scal x y = true ∧ Q (.bl (!decide (x = y))) H

theorem dec_int {i j : Int} : decide (V.int i = V.int j) = (i == j) := by
  rw [Bool.eq_iff_iff]
  simp
theorem dec_bl {i j : Bool} : decide (V.bl i = V.bl j) = (i == j) := by
  rw [Bool.eq_iff_iff]
  simp
theorem dec_str {i j : Str} : decide (V.str i = V.str j) = (i == j) := by
  rw [Bool.eq_iff_iff]
  simp
theorem dec_byt {i j : Array UInt8} : decide (V.byt i = V.byt j) = (i.toList == j.toList) := by
  rw [Bool.eq_iff_iff]
  cases i
  cases j
  simp

section
variable {X : Cx} {a b c : Expr} {ta tb tc : TE} {pos : Pos}
theorem fin_bl {pins : List (Addr × Obj)} {σ : St} {H : Hp} {s : Shared} {Q : VK} {k k' : Bool} (I : Inv X pins σ H s) (q : Q (.bl k) H) (e : k = k') : EP X pins σ Q (.bool k') s := by
  subst e
  exact ⟨.bl k, H, I, rfl, q⟩
theorem op_eq : OpR X (compareOp .Eq) rEq := by
  intro pins s σ H x y v u Q I rx ry h
  obtain ⟨hs, q⟩ := h
  cases x with
  | non =>
    cases rx
    cases y with
    | non => cases ry; exact PySem.EqNone.eq_none_none (fin_bl I q (by simp))
    | bl j => cases ry; exact PySem.EqNone.eq_none_bool (fin_bl I q (by simp))
    | int j => obtain ⟨t', rfl⟩ := ry; exact PySem.EqNone.eq_none_int (fin_bl I q (by simp))
    | str j => obtain ⟨t', rfl⟩ := ry; exact PySem.EqNone.eq_none_str (fin_bl I q (by simp))
    | _ => exact absurd (show false = true from hs) Bool.false_ne_true
  | bl i =>
    cases rx
    cases y with
    | non => cases ry; exact PySem.EqNone.eq_bool_none (fin_bl I q (by simp))
    | bl j => cases ry; exact eq_bool (fin_bl I q dec_bl)
    | str j => obtain ⟨t', rfl⟩ := ry; exact PySem.EqMixed.eq_bool_str (fin_bl I q (by simp))
    | _ => exact absurd (show false = true from hs) Bool.false_ne_true
  | int i =>
    obtain ⟨t, rfl⟩ := rx
    cases y with
    | non => cases ry; exact PySem.EqNone.eq_int_none (fin_bl I q (by simp))
    | int j => obtain ⟨t', rfl⟩ := ry; exact eq_int (fin_bl I q dec_int)
    | str j => obtain ⟨t', rfl⟩ := ry; exact PySem.EqMixed.eq_int_str (fin_bl I q (by simp))
    | _ => exact absurd (show false = true from hs) Bool.false_ne_true
  | str i =>
    obtain ⟨t, rfl⟩ := rx
    cases y with
    | non => cases ry; exact PySem.EqNone.eq_str_none (fin_bl I q (by simp))
    | bl j => cases ry; exact PySem.EqMixed.eq_str_bool (fin_bl I q (by simp))
    | int j => obtain ⟨t', rfl⟩ := ry; exact PySem.EqMixed.eq_str_int (fin_bl I q (by simp))
    | str j => obtain ⟨t', rfl⟩ := ry; exact eq_str (fin_bl I q dec_str)
    | _ => exact absurd (show false = true from hs) Bool.false_ne_true
  | byt i =>
    obtain ⟨t, rfl⟩ := rx
    cases y with
    | byt j => obtain ⟨t', rfl⟩ := ry; exact PySem.W.eq_bytes (fin_bl I q dec_byt)
    | _ => exact absurd (show false = true from hs) Bool.false_ne_true
  | _ => cases y <;> exact absurd (show false = true from hs) Bool.false_ne_true
theorem op_ne : OpR X (compareOp .NotEq) rNe := by
  intro pins s σ H x y v u Q I rx ry h
  obtain ⟨hs, q⟩ := h
  cases x with
  | non =>
    cases rx
    cases y with
    | non => cases ry; exact PySem.EqNone.ne_none_none (fin_bl I q (by simp))
    | bl j => cases ry; exact PySem.EqNone.ne_none_bool (fin_bl I q (by simp))
    | int j => obtain ⟨t', rfl⟩ := ry; exact PySem.EqNone.ne_none_int (fin_bl I q (by simp))
    | str j => obtain ⟨t', rfl⟩ := ry; exact PySem.EqNone.ne_none_str (fin_bl I q (by simp))
    | _ => exact absurd (show false = true from hs) Bool.false_ne_true
  | bl i =>
    cases rx
    cases y with
    | non => cases ry; exact PySem.EqNone.ne_bool_none (fin_bl I q (by simp))
    | bl j => cases ry; exact ne_bool (fin_bl I q (congrArg not dec_bl))
    | str j => obtain ⟨t', rfl⟩ := ry; exact PySem.EqMixed.ne_bool_str (fin_bl I q (by simp))
    | _ => exact absurd (show false = true from hs) Bool.false_ne_true
  | int i =>
    obtain ⟨t, rfl⟩ := rx
    cases y with
    | non => cases ry; exact PySem.EqNone.ne_int_none (fin_bl I q (by simp))
    | int j => obtain ⟨t', rfl⟩ := ry; exact ne_int (fin_bl I q (congrArg not dec_int))
    | str j => obtain ⟨t', rfl⟩ := ry; exact PySem.EqMixed.ne_int_str (fin_bl I q (by simp))
    | _ => exact absurd (show false = true from hs) Bool.false_ne_true
  | str i =>
    obtain ⟨t, rfl⟩ := rx
    cases y with
    | non => cases ry; exact PySem.EqNone.ne_str_none (fin_bl I q (by simp))
    | bl j => cases ry; exact PySem.EqMixed.ne_str_bool (fin_bl I q (by simp))
    | int j => obtain ⟨t', rfl⟩ := ry; exact PySem.EqMixed.ne_str_int (fin_bl I q (by simp))
    | str j => obtain ⟨t', rfl⟩ := ry; exact ne_str (fin_bl I q (congrArg not dec_str))
    | _ => exact absurd (show false = true from hs) Bool.false_ne_true
  | byt i =>
    obtain ⟨t, rfl⟩ := rx
    cases y with
    | byt j => obtain ⟨t', rfl⟩ := ry; exact PySem.W.ne_bytes (fin_bl I q (congrArg not dec_byt))
    | _ => exact absurd (show false = true from hs) Bool.false_ne_true
  | _ => cases y <;> exact absurd (show false = true from hs) Bool.false_ne_true

theorem op_lt : OpR X (compareOp .Lt) (rI0 fun i j => .bl (decide (i < j))) := opB0 fun _ _ _ _ _ _ _ q => lt_int q
theorem op_le : OpR X (compareOp .LtE) (rI0 fun i j => .bl (decide (i ≤ j))) := opB0 fun _ _ _ _ _ _ _ q => le_int q
theorem op_gt : OpR X (compareOp .Gt) (rI0 fun i j => .bl (decide (j < i))) := opB0 fun _ _ _ _ _ _ _ q => gt_int q
theorem nomark (b : Expr) {op : CmpOp} (h : op ≠ .In := by decide) (h2 : op ≠ .NotIn := by decide) : behindInMarks op b = false := by
  have e1 : (op == CmpOp.In) = false := by cases op <;> first | rfl | exact absurd rfl h
  have e2 : (op == CmpOp.NotIn) = false := by cases op <;> first | rfl | exact absurd rfl h2
  cases b <;> simp [behindInMarks, e1, e2]
theorem pe_cmpR {op : CmpOp} {r : R2} (ho : OpR X (compareOp op) r) (ha : PE X a ta) (hb : PE X b tb) (hm : behindInMarks op b = false) : PE X (.Compare a [op] [b] pos) (tOp r ta tb) := by
  intro pins s σ H Q I h
  exact wpAny_Compare1 (binT ha hb I h fun v u s2 x y H2 I2 rx ry q => ho pins s2 σ H2 x y v u Q I2 rx ry q) hm
def tTest (t : TE) : TT := fun σ H Q => t σ H fun x H' => ∃ k, x = .bl k ∧ Q k H'
theorem pt_cmpR {op : CmpOp} {r : R2} (ho : OpR X (compareOp op) r) (ha : PE X a ta) (hb : PE X b tb) (hm : behindInMarks op b = false) : PT X (.Compare a [op] [b] pos) (tTest (tOp r ta tb)) := by
  intro pins s σ H Q I h
  refine wpAny_isTrue_Compare1 (thn (ha pins s σ H _ I h) fun v s1 ⟨x, H1, I1, r1, q1⟩ => thn (hb pins s1 σ H1 _ I1 q1) fun u s2 ⟨y, H2, I2, r2, q2⟩ =>
    thn (ho pins s2 σ H2 x y v u _ I2 r1 r2 q2) fun c s3 ⟨z, H3, I3, r3, k, e, q3⟩ => ?_) hm
  subst e
  cases r3
  exact wpAny_truthy_bool ⟨H3, I3, q3⟩
theorem line63 : (sizeLine : Nat) < 2 ^ 63 := by rw [sizeLine_eq]; decide
theorem vals1 {x : V} {us : List Value} (r : Vals [x] us) : ∃ u, us = [u] ∧ RelV x u := by
  cases r with
  | cons r1 r2 => cases r2; exact ⟨_, rfl, r1⟩
theorem vals2 {x y : V} {us : List Value} (r : Vals [x, y] us) : ∃ u w', us = [u, w'] ∧ RelV x u ∧ RelV y w' := by
  cases r with
  | cons r1 r2 =>
    cases r2 with
    | cons r3 r4 => cases r4; exact ⟨_, _, rfl, r1, r3⟩
theorem call_min2 (hc : X.calm = true) : CallR X (.builtin "min") (fun xs H Q => ∃ i j, xs = [.int i, .int j] ∧ Q (.int (if j < i then j else i)) H) := by
  intro pins s σ H xs us Q I r h
  obtain ⟨i, j, rfl, q⟩ := h
  obtain ⟨u, w', rfl, ⟨t, rfl⟩, ⟨t', rfl⟩⟩ := vals2 r
  refine min_two_ints (I.ok.hd hc) fun h' tk k => ⟨_, H, I.kept k, ?_, q⟩
  by_cases hj : j < i
  · rw [if_pos hj, if_pos hj]; exact ⟨_, rfl⟩
  · rw [if_neg hj, if_neg hj]; exact ⟨_, rfl⟩
end
end L2
namespace L2
open PySem PySem.Spec PyProof.Rows
structure ObjM (h : Heap) (x dx C : Addr) (mA : Str → Option Value) : Prop where
  obj : h.get? x = some (PySem.W.instObj C dx)
  ns : h.Ns1 dx mA
  ne : dx ≠ x

theorem lookIn_ns {h : Heap} {dx : Addr} {mA : Str → Option Value} (n : h.Ns1 dx mA) : ∃ od, h.get? dx = some od ∧ ∀ name, PySem.W.lookIn name od = some (mA name) := by
  obtain ⟨o, es, ep, ho, hd, hk, _, hm⟩ := n
  refine ⟨o, ho, fun name => ?_⟩
  have e := hm name
  unfold nsFind findBy at e
  rw [← Array.find?_toList] at e
  unfold PySem.W.lookIn
  rw [hd]
  dsimp only
  split
  · rename_i y q
    rw [q] at e
    exact congrArg some e
  · rename_i q
    rw [q] at e
    have a : es.toList.any (·.refKey) = false := by
      rw [List.any_eq_false]
      intro y hy
      obtain ⟨z, t, hkey⟩ := hk y (Array.mem_toList_iff.mp hy)
      simp [DictEntry.refKey, hkey]
    have a' : ¬ es.toList.any (·.refKey) = true := by rw [a]; exact Bool.false_ne_true
    rw [if_neg a']
    exact congrArg some e

theorem ObjM.look {h : Heap} {x dx C : Addr} {mA : Str → Option Value} (I : ObjM h x dx C mA) : ∃ od, PySem.W.InstAt h x (PySem.W.instObj C dx) C (some od) ∧ ∀ name, PySem.W.lookIn name od = some (mA name) :=
  let ⟨od, ho, hl⟩ := lookIn_ns I.ns
  ⟨od, ⟨I.obj, rfl, rfl, ho⟩, hl⟩

section
variable {prog : Program} {w : World} {A : Around} {E : Value → Shared → Prop} {s : Shared} {K : PySem.W.Frag} {x dx C f : Addr} {mA : Str → Option Value} {name : Str} {v : Value}
end
theorem RelO.some_of {v : V} {o : Option Value} (r : RelO (some v) o) : ∃ u, o = some u ∧ RelV v u := by
  cases o with
  | none => exact (show False from r).elim
  | some u => exact ⟨u, rfl, r⟩
section
variable {P : Program} {w : World} {H H' : Hp} {h h' : Heap} {a C dx : Addr} {fs fs' : List (Str × V)}
theorem ins_get (hok : HOk P w H h) (e : H a = some (.ins C dx fs)) : ∃ mA, ObjM h a dx C mA ∧ (∀ f, RelO (fs.lookup f) (mA f)) ∧ PySem.Within mA (fs.map (·.1)) ∧ fs.length ≤ 1000 ∧ H dx = some (.own a) := by
  obtain ⟨d, z, ne, ob, mA, n, r, q⟩ := (show ObjOk P w H h a (.ins C dx fs) from hok a _ e)
  exact ⟨mA, ⟨ob, n, ne⟩, r, q, z, d⟩
end
structure Cls (K : PySem.W.Frag) (C : Addr) : Prop where
  pg : PySem.W.plainGet K C Str.empty = true
  hd : PySem.W.hasDictIn K C = true
  po : PySem.W.plainOver K C = true
  sa : PySem.W.findIn K (.ref C) "__setattr__" = some (some (.builtin "object.__setattr__"))
theorem Cls.get {K : PySem.W.Frag} {C : Addr} (c : Cls K C) (f : Str) : PySem.W.plainGet K C f = true := c.pg
section
variable {X : Cx} {pins : List (Addr × Obj)} {σ : St} {H : Hp} {s : Shared} {a C dx : Addr} {fs : List (Str × V)} {f : Str} {v : V} {A : Around} {E : Value → Shared → Prop}
theorem Inv.made (I : Inv X pins σ H s) : Inv X pins σ (upd (upd H s.heap.objs.size (.own (s.heap.objs.size + 1))) (s.heap.objs.size + 1) (.ins C s.heap.objs.size []))
    { s with heap := (s.heap.push PySem.W.emptyDict).push (PySem.W.instObj C s.heap.objs.size) } := by
  have e1 : (s.heap.push PySem.W.emptyDict).get? s.heap.objs.size = some PySem.W.emptyDict := Heap.get?_push_size s.heap rfl
  have e2 : ((s.heap.push PySem.W.emptyDict).push (PySem.W.instObj C s.heap.objs.size)).get? (s.heap.objs.size + 1) = some (PySem.W.instObj C s.heap.objs.size) := by
    have := Heap.get?_push_size (s.heap.push PySem.W.emptyDict) (o := PySem.W.instObj C s.heap.objs.size) rfl
    rwa [Heap.size_push] at this
  have e3 : (s.heap.push PySem.W.emptyDict).Ns s.heap.objs.size (fun _ => none) := ⟨PySem.W.emptyDict, #[], _, e1, rfl, (fun e he => absurd he (by simp)), fun _ => rfl⟩
  have I1 := I.laid (a := s.heap.objs.size) (o := .own (s.heap.objs.size + 1)) (h' := s.heap.push PySem.W.emptyDict) (t' := s.toks) (fun b u q => Heap.get?_push_of_some _ q) (Nat.le_refl _) ⟨_, e1⟩
  refine I1.laid (a := s.heap.objs.size + 1) (o := .ins C s.heap.objs.size []) (t' := s.toks) (fun b u q => Heap.get?_push_of_some _ q) (Nat.le_of_eq (Heap.size_push _ _)) ?_
  have ne : s.heap.objs.size ≠ s.heap.objs.size + 1 := Nat.ne_of_lt (Nat.lt_succ_self _)
  refine ⟨by rw [upd_ne ne, upd_same], Nat.zero_le _, ne, e2, fun _ => none, (Heap.Ns1.of_empty e3).at fun o q => Heap.get?_push_of_some _ q, fun _ => True.intro, fun y hy => absurd rfl hy⟩

end
section
variable {X : Cx} {o e value : Expr} {f : Str} {pos pos' tpos : Pos} {ta tv : TE}
end
section
variable {X : Cx} {pins : List (Addr × Obj)} {σ : St} {H : Hp} {s : Shared} {A : Around} {E : Value → Shared → Prop} {Q : Value → Shared → Prop} {c : Value} {b : Bool}
inductive TyOf (K : PySem.W.Frag) (H : Hp) : V → Value → Prop where
  | non : TyOf K H .non (.type "NoneType")
  | bl (x : Bool) : TyOf K H (.bl x) (.type "bool")
  | int (i : Int) : TyOf K H (.int i) (.type "int")
  | str (x : Str) : TyOf K H (.str x) (.type "str")
  | flt (x : UInt64) : TyOf K H (.flt x) (.type "float")
  | lst {a : Addr} {xs : List V} (e : H a = some (.lst xs)) : TyOf K H (.ref a) (.type "list")
  | frz {a : Addr} {o : Obj} {xs : List V} (e : H a = some (.frz o (.lst xs))) : TyOf K H (.ref a) (.type "list")
  | tup {a : Addr} {xs : List V} (e : H a = some (.tup xs)) : TyOf K H (.ref a) (.type "tuple")
  | dK {a : Addr} {kvs : List (Key × V)} (e : H a = some (.dK kvs)) : TyOf K H (.ref a) (.type "dict")
  | dT {a : Addr} {kvs : List (List Key × V)} (e : H a = some (.dT kvs)) : TyOf K H (.ref a) (.type "dict")
  | ins {a C dx : Addr} {fs : List (Str × V)} (e : H a = some (.ins C dx fs)) (cl : Cls K C) (ha : PySem.W.findIn K (.ref C) "__class__" = some (some (.builtin "object.__class__")))
      (hn : PySem.W.specialIn K (.builtin "object.__class__") "__get__" = some (some (.builtin "getset_descriptor.__get__"))) (htk : PySem.W.takesIn K (.builtin "object.__class__") = some true)
      (hm : PySem.W.mroIn K C (.type "object") = some true) : TyOf K H (.ref a) (.ref C)
theorem isinst_ok {x : V} {u t : Value} (I : Inv X pins σ H s) (rx : RelV x u) (ty : TyOf X.K H x t) (e : PySem.W.kitOne X.K t c = some b) (h : ∀ tk, Q (.bool b) { s with toks := tk }) :
    wpAny (model X.prog X.w) A (call (.builtin "isinstance") [u, c]) Q E s := by
  cases ty with
  | non => cases (show u = Value.none from rx); exact PySem.W.kia_one PySem.W.kitx_none I.kIn True.intro e (fun z => nomatch z) h
  | bl y => cases (show u = Value.bool y from rx); exact PySem.W.kia_one PySem.W.kitx_bool I.kIn True.intro e (fun z => nomatch z) h
  | int i => obtain ⟨t, q⟩ := (show ∃ t, u = Value.int i t from rx); cases q; exact PySem.W.kia_one PySem.W.kitx_int I.kIn True.intro e (fun z => nomatch z) h
  | str y => obtain ⟨t, q⟩ := (show ∃ t, u = Value.str y t from rx); cases q; exact PySem.W.kia_one PySem.W.kitx_str I.kIn True.intro e (fun z => nomatch z) h
  | flt y => obtain ⟨t, q⟩ := (show ∃ t, u = Value.float y t from rx); cases q; exact PySem.W.kia_one PySem.W.kitx_float I.kIn True.intro e (fun z => nomatch z) h
  | @lst a xs ea =>
    cases (show u = Value.ref a from rx)
    obtain ⟨_, _, n, _, h1⟩ := (show ObjOk X.prog X.w H s.heap a (.lst xs) from I.hok a _ ea)
    exact PySem.W.kia_one PySem.W.kitx_list I.kIn ⟨_, h1, rfl⟩ e (fun z => nomatch z) h
  | @frz a ob xs ea =>
    cases (show u = Value.ref a from rx)
    obtain ⟨_, _, _, n, _, h1⟩ := (show ObjOk X.prog X.w H s.heap a (.frz ob (.lst xs)) from I.hok a _ ea)
    exact PySem.W.kia_one PySem.W.kitx_list I.kIn ⟨_, h1, rfl⟩ e (fun z => nomatch z) h
  | @tup a xs ea =>
    cases (show u = Value.ref a from rx)
    obtain ⟨_, _, _, p⟩ := (show ObjOk X.prog X.w H s.heap a (.tup xs) from I.hok a _ ea)
    obtain ⟨o, h1, h2, _⟩ := p
    exact PySem.W.kia_one PySem.W.kitx_tuple I.kIn ⟨o, h1, h2⟩ e (fun z => nomatch z) h
  | @dK a kvs ea =>
    cases (show u = Value.ref a from rx)
    obtain ⟨_, _, vs, _, p⟩ := (show ObjOk X.prog X.w H s.heap a (.dK kvs) from I.hok a _ ea)
    obtain ⟨o, es, ep, h1, h2, _⟩ := p
    exact PySem.W.kia_one PySem.W.kitx_dict I.kIn ⟨o, h1, h2.1⟩ e (fun z => nomatch z) h
  | @dT a kvs ea =>
    cases (show u = Value.ref a from rx)
    obtain ⟨_, _, xs, _, o, es, ep, h1, h2, _⟩ := (show ObjOk X.prog X.w H s.heap a (.dT kvs) from I.hok a _ ea)
    exact PySem.W.kia_one PySem.W.kitx_dict I.kIn ⟨o, h1, h2.1⟩ e (fun z => nomatch z) h
  | @ins a C dx fs ea cl ha hn htk hm =>
    cases (show u = Value.ref a from rx)
    obtain ⟨mA, O, _⟩ := ins_get I.hok ea
    obtain ⟨od, J, _⟩ := O.look
    exact PySem.W.kia_one (PySem.W.kitx_own (cl.get _) cl.hd ha hn htk hm) I.kIn J e (fun z => nomatch z) h
end
end L2
namespace L2
open PySem PySem.Spec PyProof.Rows
structure Room (k : Nat) (A : Around) : Prop where
  hd : A.handled = none
  dp : A.depth + 3 * k + 5 < recursionLimit
  un : A.units + 16 * k + 200 < cLine
theorem Room.mono {j k : Nat} {A : Around} (r : Room k A) (h : j ≤ k) : Room j A := ⟨r.hd, by have := r.dp; omega, by have := r.un; omega⟩
theorem Room.deeper {k : Nat} {A : Around} (r : Room (k + 1) A) (env : Env) : Room k (A.deeper env) :=
  ⟨r.hd, by have := r.dp; show A.depth + 1 + 3 * k + 5 < _; omega, by have := r.un; show A.units + 3 + 16 * k + 200 < _; omega⟩
theorem Room.in1 {k : Nat} {A : Around} (r : Room (k + 1) A) : Room k A.in1 :=
  ⟨r.hd, by have := r.dp; show A.depth + 3 * k + 5 < _; omega, by have := r.un; show A.units + 1 + 16 * k + 200 < _; omega⟩
theorem Room.depth {k : Nat} {A : Around} (r : Room k A) : A.depth < recursionLimit := by have := r.dp; omega
theorem Room.units {k : Nat} {A : Around} (r : Room k A) : A.units + 64 < cLine := by have := r.un; omega
def tNil : TA := fun _ H Q => Q [] H
def tCons (ta : TE) (tr : TA) : TA := fun σ H Q => ta σ H fun x H1 => tr σ H1 fun xs H2 => Q (x :: xs) H2
section
variable {X : Cx} {e : Expr} {es : List Expr} {te : TE} {t : TA} {pos : Pos}
theorem pa_nil : PA X [] tNil := fun _ _ _ _ H Q I h => Calls.spliced_nil ⟨[], H, I, .nil, h⟩
theorem pa_cons (ha : PE X e te) (hr : PA X es t) (hs : starEach (e :: es) X.env = (false, eval e X.env) :: starEach es X.env := by rfl) : PA X (e :: es) (tCons te t) := by
  intro pos pins s σ H Q I h
  rw [hs]
  show wpAny _ _ (spliced ((false, eval e X.env) :: backTo pos (starEach es X.env))) _ _ s
  refine Calls.spliced_cons (thn (ha pins s σ H _ I h) fun u s1 ⟨x, H1, I1, r1, q1⟩ => ?_)
  exact thn (hr pos pins s1 σ H1 _ I1 q1) fun us s2 ⟨xs, H2, I2, r2, q2⟩ => ⟨x :: xs, H2, I2, .cons r1 r2, q2⟩

def tTup (t : TA) : TE := fun σ H Q => t σ H fun xs H1 => xs.length ≤ sizeLine ∧ ∀ p, H1 p = none → Q (.ref p) (upd H1 p (.tup xs))
def tLst (t : TA) : TE := fun σ H Q => t σ H fun xs H1 => xs.length ≤ sizeLine ∧ ∀ p, H1 p = none → Q (.ref p) (upd H1 p (.lst xs))
theorem pe_tup {x1} (h : PA X es t) : PE X (.Tuple es x1 pos) (tTup t) := by
  intro pins s σ H Q I hq
  refine wpAny_Tuple_spliced (thn (h pos pins s σ H _ I hq) fun us s1 ⟨xs, H1, I1, r, z, q⟩ => ⟨by rw [← r.length]; exact z, ?_⟩)
  have hf : H1 s1.heap.objs.size = none := I1.hok.fresh (Nat.le_refl _)
  refine ⟨.ref s1.heap.objs.size, upd H1 s1.heap.objs.size (.tup xs), I1.laid (t' := s1.toks) (fun b u e => Heap.get?_push_of_some _ e) (Nat.le_refl _) ?_, rfl, q _ hf⟩
  exact ⟨z, us, r, ⟨_, Heap.get?_push_size _ rfl, rfl, _, rfl⟩⟩
theorem pe_lst (h : PA X es t) : PE X (.List es pos) (tLst t) := by
  intro pins s σ H Q I hq
  refine wpAny_List_spliced (thn (h pos pins s σ H _ I hq) fun us s1 ⟨xs, H1, I1, r, z, q⟩ => ⟨by rw [← r.length]; exact z, ?_⟩)
  have hf : H1 s1.heap.objs.size = none := I1.hok.fresh (Nat.le_refl _)
  refine ⟨.ref s1.heap.objs.size, upd H1 s1.heap.objs.size (.lst xs), I1.laid (t' := s1.toks) (fun b u e => Heap.get?_push_of_some _ e) (Nat.le_refl _) ?_, rfl, q _ hf⟩
  exact ⟨z, us, 0, r, Heap.get?_push_size _ rfl⟩
end
abbrev Sp := List V → Hp → VK → XK → Prop
abbrev CXT := List Env → Hp → Shared → XK → Value → Shared → Prop

structure Env0 (P : Program) (w : World) (K : PySem.W.Frag) (mg : Str → Option Value) (base : Heap) (A : Around) (outer : List Env) (s : Shared) (H : Hp) : Prop where
  frames : A.frames = some outer
  mod : Mod K mg base
  bs : ∀ b o, base.get? b = some o → s.heap.get? b = some o ∧ H b = none
  bsz : base.objs.size ≤ s.heap.objs.size
  funs : s.heap.FunFrames base outer
  frf : ∀ b ∈ frs outer, H b = none
  hok : HOk P w H s.heap
  bare : AllBare s.gens
def CE (outer : List Env) (P : Program) (w : World) (H : Hp) (s : Shared) (Q : VK) (u : Value) (s' : Shared) : Prop :=
  ∃ v H', s'.os = s.os ∧ AllBare s'.gens ∧ Un (frs outer) [] H H' s.heap s'.heap ∧ HOk P w H' s'.heap ∧ RelV v u ∧ Q v H'
def CR (CX : CXT) (outer : List Env) (P : Program) (w : World) (H : Hp) (s : Shared) (Q : VK) (E : XK) (r : Result) (s' : Shared) : Prop :=
  match r with
  | .ok (.ret u) => CE outer P w H s Q u s'
  | .ok _ => False
  | .error e => CX outer H s E e s'
structure FnOk (P : Program) (w : World) (K : PySem.W.Frag) (mg : Str → Option Value) (base : Heap) (CX : CXT) (k : Nat) (f : Addr) (fd : FuncData) (ps : List Str) (sp : Sp) : Prop where
  len : ∀ vs H Q E, sp vs H Q E → vs.length = ps.length
  run : ∀ (A : Around) (outer : List Env) (s : Shared) (H : Hp) (args : Args) (us : List Value) (vs : List V) (Q : VK) (E : XK), Room k A → Env0 P w K mg base A outer s H → BindsTo s fd args (ps.zip us) → Vals vs us → sp vs H Q E →
    codeAny (model P w) A (.call (.ref f) args) (CR CX outer P w H s Q E) s
theorem FnOk.mono {P : Program} {w : World} {K : PySem.W.Frag} {mg : Str → Option Value} {base : Heap} {CX : CXT} {j k : Nat} {f : Addr} {fd : FuncData} {ps : List Str} {sp : Sp} (F : FnOk P w K mg base CX j f fd ps sp) (h : j ≤ k) :
    FnOk P w K mg base CX k f fd ps sp := ⟨F.len, fun A outer s H args us vs Q E hr => F.run A outer s H args us vs Q E (hr.mono h)⟩
theorem FnOk.imp {P : Program} {w : World} {K : PySem.W.Frag} {mg : Str → Option Value} {base : Heap} {CX : CXT} {k : Nat} {f : Addr} {fd : FuncData} {ps : List Str} {sp sp' : Sp} (F : FnOk P w K mg base CX k f fd ps sp)
    (h : ∀ vs H Q E, sp' vs H Q E → sp vs H Q E) : FnOk P w K mg base CX k f fd ps sp' :=
  ⟨fun vs H Q E q => F.len vs H Q E (h _ _ _ _ q), fun A outer s H args us vs Q E hr he hb hv hs => F.run A outer s H args us vs Q E hr he hb hv (h _ _ _ _ hs)⟩

theorem Env0.in1 {P : Program} {w : World} {K : PySem.W.Frag} {mg : Str → Option Value} {base : Heap} {A : Around} {outer : List Env} {s : Shared} {H : Hp} (e : Env0 P w K mg base A outer s H) :
    Env0 P w K mg base A.in1 outer s H := ⟨e.frames, e.mod, e.bs, e.bsz, e.funs, e.frf, e.hok, e.bare⟩

section
variable {X : Cx} {pins : List (Addr × Obj)} {σ : St} {H : Hp} {s s' : Shared}
theorem Inv.env0 (I : Inv X pins σ H s) : Env0 X.prog X.w X.K X.mg X.base X.A X.stack s H :=
  ⟨I.ok.frames, I.ok.mod, I.bs, Nat.le_trans I.ok.bsz I.sz, I.stack, I.stkFree, I.hok, I.bare⟩
theorem Inv.after {Q : VK} {u : Value} (I : Inv X pins σ H s) (h : CE X.stack X.prog X.w H s Q u s') : EP X pins σ Q u s' := by
  obtain ⟨v, H', os, bare, un, hok, r, q⟩ := h
  obtain ⟨hh, g, d, t, os'⟩ := s'
  obtain rfl : os' = s.os := os
  exact ⟨v, H', I.call (h' := hh) (g' := g) (d' := d) (t' := t) (ch := []) un hok bare (fun b z => absurd z (by simp)), r, q⟩
end
def tCall (sp : Sp) (dvs : List V) (E : XK) (t : TA) : TE := fun σ H Q => t σ H fun vs H1 => sp (vs ++ dvs) H1 Q E
def Binds (K : PySem.W.Frag) (fd : FuncData) (ps : List Str) (ds : List Value) : Prop :=
  ∀ (s : Shared) (us : List Value), K.In s.heap → (us ++ ds).length = ps.length → BindsTo s fd ⟨us, []⟩ (ps.zip (us ++ ds))
theorem Binds.all {K : PySem.W.Frag} {fd : FuncData} {ps : List Str} (h : ∀ us : List Value, us.length = ps.length → bindArgs fd ⟨us, []⟩ = pure (ps.zip us)) : Binds K fd ps [] := fun s us _ hl => by
  rw [List.append_nil] at hl ⊢
  exact .of_eq (h us hl)

def Passes (CX : CXT) (X : Cx) (E : XK) : Prop := ∀ (pins : List (Addr × Obj)) (σ : St) (H : Hp) (s : Shared) (e : Value) (s' : Shared), Inv X pins σ H s → CX X.stack H s E e s' → X.xe e s'

section
variable {X : Cx} {CX : CXT} {k : Nat} {f C : Addr} {fd : FuncData} {ps : List Str} {sp : Sp} {dvs : List V} {ds : List Value} {E : XK} {x m : Str} {p pos apos : Pos} {e o : Expr} {es : List Expr} {ta : TE} {t : TA}
theorem run_fn {pins : List (Addr × Obj)} {σ : St} {H : Hp} {s : Shared} {Q : VK} {us : List Value} {vs : List V} (F : FnOk X.prog X.w X.K X.mg X.base CX k f fd ps sp) (hr : Room k X.A) (hb : Binds X.K fd ps ds) (hd : Vals dvs ds) (hx : Passes CX X E)
    (I : Inv X pins σ H s) (r : Vals vs us) (h : sp (vs ++ dvs) H Q E) : wpAny (model X.prog X.w) X.A (call (.ref f) us) (EP X pins σ Q) X.xe s := by
  have r2 : Vals (vs ++ dvs) (us ++ ds) := r.append hd
  have hl : (us ++ ds).length = ps.length := by rw [← r2.length]; exact F.len _ _ _ _ h
  refine wpAny_call (codeAny_mono (F.run X.A X.stack s H ⟨us, []⟩ (us ++ ds) (vs ++ dvs) Q E hr I.env0 (hb s us I.kIn hl) r2 h) fun r s' hq => ?_)
  cases r with
  | error e => exact hx pins σ H s e s' I hq
  | ok fl =>
    cases fl with
    | ret u => exact I.after hq
    | next => exact False.elim hq
    | brk => exact False.elim hq
    | cont => exact False.elim hq

theorem pe_call (F : FnOk X.prog X.w X.K X.mg X.base CX k f fd ps sp) (hr : Room k X.A) (hg : Gl X x) (hm : X.mg x = some (.ref f)) (hk : PySem.W.keepIn X.K (.ref f) = true) (hb : Binds X.K fd ps ds) (hd : Vals dvs ds) (hx : Passes CX X E)
    (ha : PA X (e :: es) t) (hdb : (x == ("__debug__" : Str)) = false := by decide) (he : starEach (e :: es) X.env = (false, eval e X.env) :: starEach es X.env := by rfl) (hpl : (backTo pos (starEach es X.env)).any (·.1) = false := by rfl) :
    PE X (.Call (.Name x p) (e :: es) [] pos) (tCall sp dvs E t) := by
  intro pins s σ H Q I h
  refine wpAny_Call_Name_kw (ld_glob I hg hm ?_ hdb)
  refine PySem.W.callWith_K (h₀ := X.base) I.ok.mod.kin hk (thn (ha pos pins s σ H _ I h) fun us s1 ⟨vs, H1, I1, r, q⟩ => ⟨I1.kIn, ?_⟩) he hpl
  exact run_fn F hr hb hd hx I1 r q
end
section
variable {X : Cx} {CX : CXT} {k : Nat} {f C : Addr} {fd : FuncData} {ps ks : List Str} {sp : Sp} {E : XK} {x m : Str} {p pos apos kpos : Pos} {e o : Expr} {es : List Expr} {kws : List Keyword} {te ta : TE} {t tk : TA} {nm : Option Str}
variable {g : List Value → List Value → List Value} {gV : List V → List V → List V}
end
structure FnScope (N P : List Str) (sc : Scope) : Prop where
  kind : sc.kind = .function
  co : sc.isCoroutine = false
  gen : sc.isGenerator = false
  nd : N.Nodup
  pre : N.take P.length = P
  par : ∀ x ∈ P, sc.names.lookup x = some .local ∨ sc.names.lookup x = some .cell
  nofree : ∀ y ∈ sc.names, y.2 ≠ .free

theorem bindL_out {kindOf : Str → Option NameKind} {x : Str} : ∀ {binds : List (Str × Value)} {m : Str → Option Value}, (∀ v, (x, v) ∉ binds) → bindL kindOf binds m x = m x
  | [], _, _ => rfl
  | (n, v) :: r, m, h => by
    unfold bindL
    rw [bindL_out fun w hw => h w (List.mem_cons_of_mem _ hw)]
    split
    · have : x ≠ n := by rintro rfl; exact h v List.mem_cons_self
      simp [this]
    · rfl
theorem bindC_out {kindOf : Str → Option NameKind} {x : Str} : ∀ {binds : List (Str × Value)} {m : Str → Option Value}, (∀ v, (x, v) ∉ binds) → bindC kindOf binds m x = m x
  | [], _, _ => rfl
  | (n, v) :: r, m, h => by
    unfold bindC
    rw [bindC_out fun w hw => h w (List.mem_cons_of_mem _ hw)]
    split
    · rfl
    · have : x ≠ n := by rintro rfl; exact h v List.mem_cons_self
      simp [this]
theorem bindL_get {kindOf : Str → Option NameKind} {x : Str} {v : Value} : ∀ {P : List Str} {vs : List Value} {i : Nat} {m : Str → Option Value}, P.Nodup → P[i]? = some x → vs[i]? = some v → kindOf x = some .local →
    bindL kindOf (P.zip vs) m x = some v
  | [], _, _, _, _, h, _, _ => by simp at h
  | _ :: _, [], _, _, _, _, h, _ => by simp at h
  | p :: P, w :: vs, 0, m, nd, h1, h2, hk => by
    simp at h1 h2; subst h1; subst h2
    show bindL kindOf ((p, w) :: P.zip vs) m p = _
    unfold bindL
    rw [bindL_out fun v hv => (List.nodup_cons.mp nd).1 (List.of_mem_zip hv).1, if_pos hk]
    simp
  | p :: P, w :: vs, i + 1, m, nd, h1, h2, hk => by
    show bindL kindOf ((p, w) :: P.zip vs) m x = _
    unfold bindL
    exact bindL_get (i := i) (List.nodup_cons.mp nd).2 (by simpa using h1) (by simpa using h2) hk
theorem bindC_get {kindOf : Str → Option NameKind} {x : Str} {v : Value} : ∀ {P : List Str} {vs : List Value} {i : Nat} {m : Str → Option Value}, P.Nodup → P[i]? = some x → vs[i]? = some v → kindOf x ≠ some .local →
    bindC kindOf (P.zip vs) m x = some v
  | [], _, _, _, _, h, _, _ => by simp at h
  | _ :: _, [], _, _, _, _, h, _ => by simp at h
  | p :: P, w :: vs, 0, m, nd, h1, h2, hk => by
    simp at h1 h2; subst h1; subst h2
    show bindC kindOf ((p, w) :: P.zip vs) m p = _
    unfold bindC
    rw [bindC_out fun v hv => (List.nodup_cons.mp nd).1 (List.of_mem_zip hv).1, if_neg hk]
    simp
  | p :: P, w :: vs, i + 1, m, nd, h1, h2, hk => by
    show bindC kindOf ((p, w) :: P.zip vs) m x = _
    unfold bindC
    exact bindC_get (i := i) (List.nodup_cons.mp nd).2 (by simpa using h1) (by simpa using h2) hk

def start (N : List Str) (vs : List V) : St := vs.map some ++ List.replicate (N.length - vs.length) none

def cxOf (CX : CXT) (P : Program) (w : World) (K : PySem.W.Frag) (mg : Str → Option Value) (base : Heap) (N : List Str) (qual : Str) (scope : Scope) (f : Addr) (cd : Value) (A : Around) (outer : List Env) (s : Shared) (H : Hp) (E : XK) : Cx where
  prog := P
  w := w
  K := K
  mg := mg
  base := base
  A := A.deeper (envOfC qual scope s.heap.objs.size f cd)
  N := N
  s₀ := s
  H₀ := H
  env := envOfC qual scope s.heap.objs.size f cd
  outer := outer
  stack := envOfC qual scope s.heap.objs.size f cd :: outer
  ex := []
  calm := true
  fn := fun _ => true
  pn := []
  xe := fun e s' => wpAny (model P w) (A.deeper (envOfC qual scope s.heap.objs.size f cd)) (leaving (envOfC qual scope s.heap.objs.size f cd) e) (fun _ s'' => CX outer H s E e s'') (fun e' s'' => CX outer H s E e' s'') s'

theorem cell_has {sc : Scope} {n : Nat} {x : Str} (h : sc.names.lookup x = some .cell) : ∃ c, (cellsFrom n sc.names []).lookup x = some c := by
  have q := PySem.W.cellsFrom_some sc.names n [] (.inl h)
  exact Option.isSome_iff_exists.mp q

theorem inv_start {CX : CXT} {P : Program} {w : World} {K : PySem.W.Frag} {mg : Str → Option Value} {base : Heap} {N ps : List Str} {qual : Str} {scope : Scope} {f : Addr} {cd : Value} {A : Around} {outer : List Env} {s s1 : Shared} {H : Hp} {E : XK} {us : List Value} {vs : List V}
    (S : FnScope N ps scope) (hd : A.handled = none) (e0 : Env0 P w K mg base A outer s H) (hl : vs.length = ps.length) (r : Vals vs us)
    (x : InCallC s s.heap.objs.size (bindL (envOfC qual scope s.heap.objs.size f cd).kindOf (ps.zip us) fun _ => none) (cellsFrom (s.heap.objs.size + 1) scope.names []) (bindC (envOfC qual scope s.heap.objs.size f cd).kindOf (ps.zip us) fun _ => none) s1) :
    Inv (cxOf CX P w K mg base N qual scope f cd A outer s H E) [] (start N vs) H s1 := by
  have hpl : ps.length ≤ N.length := by have := congrArg List.length S.pre; rw [List.length_take] at this; omega
  obtain ⟨h1, tk, rfl, hk⟩ := x.done
  have noA : ∀ b : Addr, b ∉ (cxOf CX P w K mg base N qual scope f cd A outer s H E).ex := fun b z => absurd (show b ∈ ([] : List Addr) from z) (by simp)
  refine ⟨⟨e0.mod, S.kind, rfl, rfl, Nat.le_refl _, fun y z c h1 h2 => ?_, fun y hy => ?_, fun y c _ h => ?_, fun _ => hd, Around.frames_deeper e0.frames, .inr ⟨rfl, rfl⟩, fun b z => absurd z (noA b), e0.bs, e0.bsz, fun b _ _ => noA b, fun b z => absurd z (noA b), e0.funs, e0.frf⟩,
    rfl, e0.bare, Un.kept hk, ⟨_, x.toInCall.ns, fun i y v h1 h2 h3 => ?_⟩, fun y c h => ⟨_, x.cell y c h⟩, e0.hok.fresh (Nat.le_refl _), fun y c h => ?_, fun p hp => absurd (show p ∈ ([] : List (Addr × Obj)) from hp) (by simp), e0.hok.kept hk, ?_⟩
  · exact name_of_addr x.apart (PySem.mem_of_lookup h1) (PySem.mem_of_lookup h2)
  · have hy : scope.names.lookup y = some .cell ∨ scope.names.lookup y = some .free := hy
    rcases hy with hy | hy
    · exact cell_has hy
    · exact absurd rfl (S.nofree _ (PySem.mem_of_lookup hy))
  · exact Nat.le_of_lt (x.above y c (PySem.mem_of_lookup h))
  · have hi : i < vs.length := by
      unfold start at h2
      by_cases hi : i < vs.length
      · exact hi
      · rw [List.getElem?_append_right (by simpa using hi)] at h2
        rw [List.getElem?_replicate] at h2
        split at h2 <;> cases h2
    have ha : vs[i]? = some v := by
      unfold start at h2
      rw [List.getElem?_append_left (by simpa using hi), List.getElem?_map] at h2
      cases e : vs[i]? with
      | none => rw [e] at h2; cases h2
      | some a => rw [e] at h2; cases h2; rfl
    obtain ⟨u, hu, rv⟩ := r.get ha
    have hp : ps[i]? = some y := by
      rw [← S.pre, List.getElem?_take_of_lt (by omega)]; exact h1
    have ndP : ps.Nodup := by rw [← S.pre]; exact S.nd.sublist (List.take_sublist _ _)
    refine ⟨u, rv, ?_⟩
    rcases S.par y (List.mem_of_getElem? hp) with k | k
    · exact .inl ⟨k, bindL_get ndP hp hu k⟩
    · obtain ⟨c, e⟩ := cell_has (n := s.heap.objs.size + 1) k
      refine .inr ⟨.inl k, c, e, ?_⟩
      have q := x.cell y c e
      rw [bindC_get ndP hp hu (by show scope.names.lookup y ≠ _; rw [k]; decide)] at q
      exact q
  · exact e0.hok.fresh (Nat.le_of_lt (x.above y c (PySem.mem_of_lookup h)))
  · unfold start
    show _ = N.length
    rw [List.length_append, List.length_map, List.length_replicate]
    omega

theorem fn_of {CX : CXT} {P : Program} {w : World} {K : PySem.W.Frag} {mg : Str → Option Value} {base : Heap} {k : Nat} {f : Addr} {name qual : Str} {params : Arguments} {body : List Stmt} {scope : Scope} {dV kV doc pm cdv ct oc : Value} {an od : Option Addr}
    {osl : Array (Option Value)} {N ps : List Str} {sp : Sp} (lk : K.lookup f = some ⟨oc, od, .func (PySem.W.fnOf name qual params body scope dV kV doc pm an cdv ct), osl⟩) (hcd : PySem.W.codeIn K cdv qual = true) (S : FnScope N ps scope)
    (len : ∀ vs H Q E, sp vs H Q E → vs.length = ps.length)
    (hbody : ∀ (A : Around) (outer : List Env) (s : Shared) (H : Hp) (vs : List V) (Q : VK) (E : XK), Room k (A.deeper (envOfC qual scope s.heap.objs.size f cdv)) → sp vs H Q E →
      ∃ t, PSs (cxOf CX P w K mg base N qual scope f cdv A outer s H E) body t ∧ t { nx := fun _ H' => Q .non H', rt := Q } (start N vs) H) :
    FnOk P w K mg base CX (k + 1) f (PySem.W.fnOf name qual params body scope dV kV doc pm an cdv ct) ps sp := by
  refine ⟨len, fun A outer s H args us vs Q E hr e0 hb r hsp => ?_⟩
  have hl := len _ _ _ _ hsp
  have KX : K.In s.heap := e0.mod.kin.keeps fun b o e => (e0.bs b o e).1
  have lim : s.heap.NoLimit := e0.mod.nolimit.keeps fun b o e => (e0.bs b o e).1
  have hkind : ∀ y ∈ ps.zip us, scope.names.lookup y.1 = some .local ∨ (scope.names.lookup y.1 = some .cell ∧ ((cellsFrom (s.heap.objs.size + 1) scope.names []).lookup y.1).isSome = true) := fun ⟨n, v⟩ hy => by
    rcases S.par n (List.of_mem_zip hy).1 with q | q
    · exact .inl q
    · exact .inr ⟨q, PySem.W.cellsFrom_some _ _ _ (.inl q)⟩
  refine codeAny_call_function hr.depth (KX _ _ lk) rfl S.co S.gen rfl (PySem.W.codeRec_of KX hcd) (hb _ _ _ _ ?_)
  refine wpAny_newFunctionEnv_cells S.kind hkind fun env he s1 x => ?_
  subst he
  refine ⟨lim.keeps x.toInCall.keep, codeAny_func ?_⟩
  obtain ⟨t, ht, hq⟩ := hbody A outer s H vs Q E (hr.deeper _) hsp
  have I : Inv (cxOf CX P w K mg base N qual scope f cdv A outer s H E) [] (start N vs) H s1 := inv_start S hr.hd e0 hl r x
  refine wpAny_mono (ht [] s1 (start N vs) H _ I hq) (fun fl s' hs => ?_) fun e s' hs => hs
  have fin : ∀ {σ' : St} {H' : Hp} {v : V} {u : Value}, Inv (cxOf CX P w K mg base N qual scope f cdv A outer s H E) [] σ' H' s' → RelV v u → Q v H' → CE outer P w H s Q u s' :=
    fun {σ' H' v u} J rv q => ⟨v, H', J.os, J.bare, J.base, J.hok, rv, q⟩
  cases fl with
  | ret u =>
    obtain ⟨v, σ', H', J, rv, q⟩ := hs
    exact fin J rv q
  | next =>
    obtain ⟨σ', H', J, q⟩ := hs
    exact fin (v := V.non) (u := Value.none) J rfl q
  | brk =>
    obtain ⟨_, _, _, q⟩ := hs
    exact False.elim q
  | cont =>
    obtain ⟨_, _, _, q⟩ := hs
    exact False.elim q
end L2
namespace L2
open PySem PySem.Spec PyProof.Rows
section
variable {X : Cx} {x : Str} {p pos : Pos} {e : Expr} {es : List Expr} {t : TA} {id T : String} {r : List V → Hp → VK → Prop}
def tCB (r : List V → Hp → VK → Prop) (t : TA) : TE := fun σ H Q => t σ H fun vs H1 => r vs H1 Q
theorem pe_callB (hc : CallR X (.builtin id) r) (hg : Gl X x) (hm : X.mg x = none) (hv : bootBuiltins x = some (.builtin id)) (ha : PA X (e :: es) t) (hn : x ≠ "__name__" := by decide) (hdb : (x == ("__debug__" : Str)) = false := by decide)
    (he : starEach (e :: es) X.env = (false, eval e X.env) :: starEach es X.env := by rfl) (hpl : (backTo pos (starEach es X.env)).any (·.1) = false := by rfl) : PE X (.Call (.Name x p) (e :: es) [] pos) (tCB r t) := by
  intro pins s σ H Q I h
  refine wpAny_Call_Name_kw (ld_blt I hg hm hv ?_ hn hdb)
  exact PyProof.Rows.callWith_builtin1 (thn (ha pos pins s σ H _ I h) fun us s1 ⟨vs, H1, I1, r1, q1⟩ => hc pins s1 σ H1 vs us Q I1 r1 q1) he hpl
theorem pe_callTy (hc : CallR X (.type T) r) (hg : Gl X x) (hm : X.mg x = none) (hv : bootBuiltins x = some (.type T)) (ha : PA X (e :: es) t) (hn : x ≠ "__name__" := by decide) (hdb : (x == ("__debug__" : Str)) = false := by decide)
    (he : starEach (e :: es) X.env = (false, eval e X.env) :: starEach es X.env := by rfl) (hpl : (backTo pos (starEach es X.env)).any (·.1) = false := by rfl) : PE X (.Call (.Name x p) (e :: es) [] pos) (tCB r t) := by
  intro pins s σ H Q I h
  refine wpAny_Call_Name_kw (ld_blt I hg hm hv ?_ hn hdb)
  exact PyProof.Rows.callWith_type1 (thn (ha pos pins s σ H _ I h) fun us s1 ⟨vs, H1, I1, r1, q1⟩ => hc pins s1 σ H1 vs us Q I1 r1 q1) he hpl
end
end L2
namespace HT
open PySem PyProof.Rows
section
open PySem.SeqAt
open PySem.AutoSeq1 (wpAny_loadPart')
open PySem.MeetsSeq PySem.MeetsSeq2 PySem.MeetsSeq3
end
section
variable {prog : Program} {w : World} {A : Around} {E : Value → Shared → Prop} {s : Shared}
def sIx (n d : Nat) : Option Int → Nat
  | none => d
  | some v => if v < 0 then (v + (n : Int)).toNat else min v.toNat n
theorem sIx_none (n d : Nat) : sIx n d none = d := rfl
theorem sIx_nat (n d k : Nat) : sIx n d (some (k : Int)) = min k n := by
  show (if (k : Int) < 0 then ((k : Int) + (n : Int)).toNat else min (k : Int).toNat n) = min k n
  rw [if_neg (by omega), Int.toNat_natCast]
end
end HT
namespace L2
open PySem PySem.Spec PyProof.Rows
abbrev TO := St → Hp → (Option Int → Hp → Prop) → Prop
def PO (X : Cx) (e : Option Expr) (t : TO) : Prop :=
  ∀ (pins : List (Addr × Obj)) (s : Shared) (σ : St) (H : Hp) (Q : Option Int → Hp → Prop), Inv X pins σ H s → t σ H Q →
    wpAny (model X.prog X.w) X.A (evalPart e X.env) (fun u s' => ∃ o H', Inv X pins σ H' s' ∧ IsPart u o ∧ Q o H') X.xe s
def tNoPart : TO := fun _ H Q => Q none H
def tPart (t : TE) : TO := fun σ H Q => t σ H fun x H1 => ∃ i, x = .int i ∧ Q (some i) H1

section
variable {X : Cx} {e : Expr} {te : TE} {lo hi : Option Expr} {tl th : TO} {pos p2 : Pos}
theorem po_none : PO X none tNoPart := by
  intro pins s σ H Q I h
  rw [evalPart_none]
  exact wpAny_pure ⟨none, H, I, .none, h⟩
theorem po_some (h : PE X e te) : PO X (some e) (tPart te) := by
  intro pins s σ H Q I hw
  rw [evalPart_some]
  refine thn (h pins s σ H _ I hw) fun u s1 ⟨x, H1, I1, r1, q1⟩ => ?_
  obtain ⟨i, rfl, q⟩ := q1
  obtain ⟨t, rfl⟩ := r1
  exact ⟨some i, H1, I1, .int i t, q⟩

def SlR (X : Cx) (r : V → Option Int → Option Int → Hp → VK → Prop) : Prop :=
  ∀ (pins : List (Addr × Obj)) (s : Shared) (σ : St) (H : Hp) (x : V) (v vl vu : Value) (lo hi : Option Int) (sl : Addr) (Q : VK), Inv X pins σ H s → RelV x v → s.heap.IsSliceOf sl vl vu .none → IsPart vl lo → IsPart vu hi → r x lo hi H Q →
    ∃ T id, typeLookup (.type T) "__getitem__" = pure (some (.builtin id)) ∧ s.TypeIs v T ∧ wpAny (model X.prog X.w) X.A (getItem v (.ref sl)) (EP X pins σ Q) X.xe s
def tSl (r : V → Option Int → Option Int → Hp → VK → Prop) (te : TE) (tl th : TO) : TE := fun σ H Q => te σ H fun x H1 => tl σ H1 fun l H2 => th σ H2 fun u H3 => r x l u H3 Q
theorem pe_slice {r : V → Option Int → Option Int → Hp → VK → Prop} (hr : SlR X r) (he : PE X e te) (hl : PO X lo tl) (hu : PO X hi th) : PE X (.Subscript e (.Slice lo hi none p2) pos) (tSl r te tl th) := by
  intro pins s σ H Q I h
  refine Subscript_ (thn (he pins s σ H _ I h) fun v s1 ⟨x, H1, I1, r1, q1⟩ => ?_)
  refine wpAny_Slice (thn (hl pins s1 σ H1 _ I1 q1) fun vl s2 ⟨l, H2, I2, pl, q2⟩ => thn (hu pins s2 σ H2 _ I2 q2) fun vu s3 ⟨u, H3, I3, pu, q3⟩ => ?_)
  rw [evalPart_none]
  refine wpAny_pure ?_
  have I4 : Inv X pins σ H3 { s3 with heap := s3.heap.push { cls := .type "slice", data := .fields #[vl, vu, .none] } } := I3.kept (t' := s3.toks) fun b ob q => Heap.get?_push_of_some _ q
  obtain ⟨T, id, hT, ht, hg⟩ := hr pins { s3 with heap := s3.heap.push { cls := .type "slice", data := .fields #[vl, vu, .none] } } σ H3 x v vl vu l u s3.heap.objs.size Q I4 r1 (Heap.IsSliceOf.new ..) pl pu q3
  show wpAny (model X.prog X.w) X.A (subscriptTail e (.Slice lo hi none p2) v (.ref s3.heap.objs.size)) (EP X pins σ Q) X.xe { s3 with heap := s3.heap.push { cls := .type "slice", data := .fields #[vl, vu, .none] } }
  exact tail_any (ops := [.ref s3.heap.objs.size, v]) ht hT hg (by with_unfolding_all rfl)

def cutV (xs : List V) (lo hi : Option Int) : List V := (xs.drop (HT.sIx xs.length 0 lo)).take (HT.sIx xs.length xs.length hi - HT.sIx xs.length 0 lo)
theorem cutV_length (xs : List V) (lo hi : Option Int) : (cutV xs lo hi).length ≤ xs.length := by
  unfold cutV
  rw [List.length_take, List.length_drop]
  omega
end
end L2
namespace L2
open PySem PySem.Spec PyProof.Rows
def ixN (n : Nat) (i : Int) : Option Nat := if 0 ≤ i then (if i < n then some i.toNat else none) else if -(n : Int) ≤ i then some (i + n).toNat else none
def atI {α : Type} (xs : List α) (i : Int) : Option α := (ixN xs.length i).bind fun j => xs[j]?
theorem ixN_seq {n : Nat} {i : Int} {j : Nat} (h : ixN n i = some j) : seqIndex? i n = some j ∧ j < n ∧ -(n : Int) ≤ i ∧ i < n := by
  unfold ixN at h
  by_cases h0 : 0 ≤ i
  · rw [if_pos h0] at h
    by_cases h1 : i < n
    · rw [if_pos h1] at h
      have e : i.toNat = j := Option.some.inj h
      exact ⟨by rw [seqIndex_of h0 h1, e], by omega, by omega, h1⟩
    · rw [if_neg h1] at h; cases h
  · rw [if_neg h0] at h
    by_cases h1 : -(n : Int) ≤ i
    · rw [if_pos h1] at h
      have e : (i + n).toNat = j := Option.some.inj h
      exact ⟨by rw [seqIndex_neg (by omega) h1, e], by omega, h1, by omega⟩
    · rw [if_neg h1] at h; cases h
theorem atI_get {α : Type} {xs : List α} {i : Int} {v : α} (h : atI xs i = some v) : ∃ j, seqIndex? i xs.length = some j ∧ xs[j]? = some v ∧ j < xs.length ∧ -(xs.length : Int) ≤ i ∧ i < xs.length := by
  unfold atI at h
  cases e : ixN xs.length i with
  | none => rw [e] at h; cases h
  | some j =>
    rw [e] at h
    obtain ⟨h1, h2, h3, h4⟩ := ixN_seq e
    exact ⟨j, h1, h, h2, h3, h4⟩
theorem atI_nat {α : Type} {xs : List α} {j : Nat} {v : α} (h : xs[j]? = some v) : atI xs (j : Int) = some v := by
  have hj : j < xs.length := (List.getElem?_eq_some_iff.mp h).1
  have e : ixN xs.length (j : Int) = some j := by
    unfold ixN
    rw [if_pos (by omega), if_pos (by omega)]; simp
  unfold atI; rw [e]; exact h
def PlainIx (b : Expr) : Prop := ∀ o i, subscripted b false o i = operate [o, i] (getItem o i)
def IxR (X : Cx) (r : R2) : Prop :=
  ∀ (value slice : Expr) (pins : List (Addr × Obj)) (s : Shared) (σ : St) (H : Hp) (x y : V) (v u : Value) (Q : VK), Inv X pins σ H s → RelV x v → RelV y u → r x y H Q →
    subscripted slice false v u = operate [v, u] (getItem v u) → wpAny (model X.prog X.w) X.A (subscriptTail value slice v u) (EP X pins σ Q) X.xe s
def MtR (X : Cx) (id : String) (r : V → List V → Hp → VK → Prop) : Prop :=
  ∀ (pins : List (Addr × Obj)) (s : Shared) (σ : St) (H : Hp) (x : V) (xs : List V) (v : Value) (us : List Value) (Q : VK), Inv X pins σ H s → RelV x v → Vals xs us → r x xs H Q →
    wpAny (model X.prog X.w) X.A (call (.builtin id) (v :: us)) (EP X pins σ Q) X.xe s
section
variable {X : Cx} {a b : Expr} {ta tb : TE} {pos : Pos}
theorem pe_ix {r : R2} (hr : IxR X r) (ha : PE X a ta) (hb : PE X b tb) (hs : PlainIx b) : PE X (.Subscript a b pos) (tOp r ta tb) := by
  intro pins s σ H Q I h
  exact Subscript_ (binT ha hb I h fun v u s2 x y H2 I2 rx ry q => hr a b pins s2 σ H2 x y v u Q I2 rx ry q (hs _ _))

def rIxL (K : PySem.W.Frag) : R2 := fun x y H Q => ∃ p xs i v, x = .ref p ∧ y = .int i ∧ SqL K H p xs ∧ atI xs i = some v ∧ Q v H
def rIxT (K : PySem.W.Frag) : R2 := fun x y H Q => ∃ p xs i v, x = .ref p ∧ y = .int i ∧ SqT K H p xs ∧ atI xs i = some v ∧ Q v H
theorem ix_list : IxR X (rIxL X.K) := by
  intro value slice pins s σ H x y v u Q I rx ry h hs
  obtain ⟨p, xs, i, z, rfl, rfl, hq, he, q⟩ := h
  cases rx
  obtain ⟨t, rfl⟩ := ry
  obtain ⟨its, r, pl, hz⟩ := I.list hq
  obtain ⟨j, h1, h2, h3, h4, h5⟩ := atI_get he
  obtain ⟨w, ew, rw'⟩ := r.get h2
  have hl := r.length
  have hn := line63
  have fin : EP X pins σ Q w s := ⟨z, H, I, rw', q⟩
  by_cases h0 : 0 ≤ i
  · have hj : i.toNat = j := by
      rw [seqIndex_of h0 h5] at h1
      exact Option.some.inj h1
    exact item_listR pl.isList h0 (by omega) (by rw [hj]; simpa using ew) fin hs
  · have hj : (i + (its.toArray.size : Int)).toNat = j := by
      rw [seqIndex_neg (by omega) h4] at h1
      rw [List.size_toArray, ← hl]
      exact Option.some.inj h1
    exact subscriptTail_builtinR (x := w) pl.isList.typeIs slot_list_getitem.lookup
      (wpAny_getItem_list_neg (Q := fun r s' => r = w ∧ EP X pins σ Q r s') pl.isList (by omega) (by rw [List.size_toArray] <;> omega) (by omega) (by rw [hj]; simpa using ew) ⟨rfl, fin⟩) hs
theorem ix_tup : IxR X (rIxT X.K) := by
  intro value slice pins s σ H x y v u Q I rx ry h hs
  obtain ⟨p, xs, i, z, rfl, rfl, hq, he, q⟩ := h
  cases rx
  obtain ⟨t, rfl⟩ := ry
  obtain ⟨its, r, pl, hz⟩ := I.tuple hq
  obtain ⟨j, h1, h2, h3, h4, h5⟩ := atI_get he
  obtain ⟨w, ew, rw'⟩ := r.get h2
  have hl := r.length
  have hn := line63
  have fin : EP X pins σ Q w s := ⟨z, H, I, rw', q⟩
  exact subscriptTail_builtinR (x := w) pl.typeIs slot_tuple_getitem.lookup
    (getItem_tuple (j := j) (Q := fun r s' => r = w ∧ EP X pins σ Q r s') pl (by omega) (by omega) (by rw [List.size_toArray, ← hl]; exact h1) (by simpa using ew) ⟨rfl, fin⟩) hs
theorem mapSeq_set (its : List Value) (n j : Nat) (u : Value) : Obj.mapSeq (·.setIfInBounds j u) { cls := .type "list", data := .seq its.toArray n } = { cls := .type "list", data := .seq (its.set j u).toArray n } := by
  simp [Obj.mapSeq]
theorem Inv.lst {pins : List (Addr × Obj)} {σ : St} {H : Hp} {s : Shared} {p : Addr} {xs : List V} (I : Inv X pins σ H s) (h : H p = some (.lst xs)) :
    ∃ (its : List Value) (n : Nat), Vals xs its ∧ s.heap.get? p = some { cls := .type "list", data := .seq its.toArray n } ∧ xs.length ≤ sizeLine := by
  obtain ⟨z, its, n, r, e⟩ := I.hok p _ h
  exact ⟨its, n, r, e, z⟩
theorem Inv.lstUpd {pins : List (Addr × Obj)} {σ : St} {H : Hp} {s : Shared} {p : Addr} {xs ys : List V} {its its' : List Value} {n n' : Nat} {f : Obj → Obj} (I : Inv X pins σ H s) (h : H p = some (.lst xs))
    (ho : s.heap.get? p = some { cls := .type "list", data := .seq its.toArray n }) (hf : f { cls := .type "list", data := .seq its.toArray n } = { cls := .type "list", data := .seq its'.toArray n' }) (r : Vals ys its') (hz : ys.length ≤ sizeLine) (t : Nat) :
    Inv X pins σ (upd H p (.lst ys)) { s with heap := s.heap.update p f, toks := t } := by
  have e : (s.heap.update p f).get? p = some { cls := .type "list", data := .seq its'.toArray n' } := by
    rw [Heap.get?_update_self f ho (by rw [hf] <;> rfl), hf]
  refine I.write (x := p) (e := p) (by rw [h]; trivial) (.inl rfl) (fun b u hb q => (Heap.get?_update_other _ _ (Ne.symm hb)).trans q) ⟨_, e⟩ ?_
  exact ⟨hz, its', n', r, e⟩
def rSetL : V → V → V → Hp → (Hp → Prop) → Prop := fun o i v H Q => ∃ p xs k j, o = .ref p ∧ i = .int k ∧ H p = some (.lst xs) ∧ ixN xs.length k = some j ∧ Q (upd H p (.lst (xs.set j v)))
theorem set_list : PSet X rSetL := by
  intro pins s σ H o i v ov iv u Q I ro ri rv h
  obtain ⟨p, xs, k, j, rfl, rfl, hp, hj, q⟩ := h
  cases ro
  obtain ⟨t, rfl⟩ := ri
  obtain ⟨its, n, r, ho, hz⟩ := I.lst hp
  obtain ⟨h1, h2, h3, h4⟩ := ixN_seq hj
  have hl := r.length
  have hn := line63
  have I' : Inv X pins σ (upd H p (.lst (xs.set j v))) { s with heap := s.heap.update p (Obj.mapSeq (·.setIfInBounds j u)) } :=
    I.lstUpd hp ho (mapSeq_set its n j u) (r.set rv j) (by rw [List.length_set]; exact hz) s.toks
  by_cases h0 : 0 ≤ k
  · have hk : k.toNat = j := by
      rw [seqIndex_of h0 h4] at h1
      exact Option.some.inj h1
    exact PySem.W.ki_setAt ho h0 (by omega) (by rw [List.size_toArray, ← hl]; exact h4) (by rw [hk]; exact ⟨_, I', q⟩)
  · have hk : (k + (its.toArray.size : Int)).toNat = j := by
      rw [seqIndex_neg (by omega) h3] at h1
      rw [List.size_toArray, ← hl]
      exact Option.some.inj h1
    exact PySem.W.ki_setBack ho (by omega) (by rw [List.size_toArray, ← hl]; exact h3) (by omega) (by rw [hk]; exact ⟨_, I', q⟩)

theorem slice_bounds (lo hi : Option Int) (n : Nat) : (sliceBounds lo hi none n).1 = ((HT.sIx n 0 lo : Nat) : Int) ∧ (sliceBounds lo hi none n).2.1 = ((HT.sIx n n hi : Nat) : Int) ∧ (sliceBounds lo hi none n).2.2 = 1 := by
  refine ⟨?_, ?_, rfl⟩
  · cases lo with
    | none => simp [sliceBounds, HT.sIx]
    | some i =>
      simp only [sliceBounds, HT.sIx, Option.getD_none, show (1 : Int) > 0 by decide, if_true]
      by_cases h : i < 0
      · simp only [h, if_true] <;> omega
      · simp only [h, if_false] <;> omega
  · cases hi with
    | none => simp [sliceBounds, HT.sIx]
    | some i =>
      simp only [sliceBounds, HT.sIx, Option.getD_none, show (1 : Int) > 0 by decide, if_true]
      by_cases h : i < 0
      · simp only [h, if_true] <;> omega
      · simp only [h, if_false] <;> omega
theorem slicePick_cut (its : List Value) (lo hi : Option Int) : slicePick its.toArray lo hi none = ((its.drop (HT.sIx its.length 0 lo)).take (HT.sIx its.length its.length hi - HT.sIx its.length 0 lo)).toArray := by
  obtain ⟨h1, h2, h3⟩ := slice_bounds lo hi its.toArray.size
  unfold slicePick
  rw [h1, h2, h3]
  simp only [sliceRange_one, pick_run, List.size_toArray] <;> rfl
def rSlL (K : PySem.W.Frag) : V → Option Int → Option Int → Hp → VK → Prop := fun x lo hi H Q => ∃ a xs, x = .ref a ∧ SqL K H a xs ∧ ∀ p, H p = none → Q (.ref p) (upd H p (.lst (cutV xs lo hi)))
theorem sl_list : SlR X (rSlL X.K) := by
  intro pins s σ H x v vl vu lo hi sl Q I rx hs pl pu h
  obtain ⟨a, xs, rfl, hx, q⟩ := h
  cases rx
  obtain ⟨its, r, ht, hz⟩ := I.list hx
  have hlen := r.length
  refine ⟨"list", _, slot_list_getitem.lookup, ht.isList.typeIs, ?_⟩
  refine wpAny_getItem_list_slice ht.isList hs pl pu .none (by simp) ?_ (by rw [List.size_toArray] <;> omega)
  rw [slicePick_cut, ← hlen]
  refine ⟨.ref s.heap.objs.size, _, I.laid (t' := s.toks) (o := .lst (cutV xs lo hi)) (fun b ob q => Heap.get?_push_of_some _ q) (Nat.le_refl _) ?_, rfl, q _ (I.hok.fresh (Nat.le_refl _))⟩
  exact ⟨Nat.le_trans (cutV_length xs lo hi) hz, _, 0, (r.drop (HT.sIx xs.length 0 lo)).take (HT.sIx xs.length xs.length hi - HT.sIx xs.length 0 lo), Heap.get?_push_size _ rfl⟩

def flatV : V → Bool
  | .non => true
  | .bl _ => true
  | .int _ => true
  | .str _ => true
  | _ => false
def eqV : V → V → Bool
  | .non, .non => true
  | .bl a, .bl b => a == b
  | .bl a, .int b => (if a then 1 else 0) == b
  | .int a, .bl b => a == (if b then 1 else 0)
  | .int a, .int b => a == b
  | .str a, .str b => a == b
  | _, _ => false
theorem eqAt_V {A : Around} {s : Shared} {y x : V} {u v : Value} (ry : RelV y u) (rx : RelV x v) (fy : flatV y = true) (fx : flatV x = true) : SeqAt.EqAt A s u v (eqV y x) := by
  cases y with
  | non =>
    cases ry
    cases x with
    | non => cases rx; exact SeqAt.EqAt.same _
    | bl b => cases rx; exact SeqAt.EqAt.none_bool b
    | int b => obtain ⟨t, rfl⟩ := rx; exact SeqAt.EqAt.none_int b t
    | str b => obtain ⟨t, rfl⟩ := rx; exact SeqAt.EqAt.none_str b t
    | _ => exact absurd (show false = true from fx) Bool.false_ne_true
  | bl a =>
    cases ry
    cases x with
    | non => cases rx; exact SeqAt.EqAt.bool_none a
    | bl b => cases rx; exact SeqAt.EqAt.bool_bool a b
    | int b => obtain ⟨t, rfl⟩ := rx; exact SeqAt.EqAt.bool_int a b t
    | str b => obtain ⟨t, rfl⟩ := rx; exact SeqAt.EqAt.bool_str a b t
    | _ => exact absurd (show false = true from fx) Bool.false_ne_true
  | int a =>
    obtain ⟨t', rfl⟩ := ry
    cases x with
    | non => cases rx; exact SeqAt.EqAt.int_none a t'
    | bl b => cases rx; exact SeqAt.EqAt.int_bool a t' b
    | int b => obtain ⟨t, rfl⟩ := rx; exact SeqAt.EqAt.int_int a t' b t
    | str b => obtain ⟨t, rfl⟩ := rx; exact SeqAt.EqAt.int_str a t' b t
    | _ => exact absurd (show false = true from fx) Bool.false_ne_true
  | str a =>
    obtain ⟨t', rfl⟩ := ry
    cases x with
    | non => cases rx; exact SeqAt.EqAt.str_none a t'
    | bl b => cases rx; exact SeqAt.EqAt.str_bool a t' b
    | int b => obtain ⟨t, rfl⟩ := rx; exact SeqAt.EqAt.str_int a t' b t
    | str b => obtain ⟨t, rfl⟩ := rx; exact SeqAt.EqAt.str_str a t' b t
    | _ => exact absurd (show false = true from fx) Bool.false_ne_true
  | _ => exact absurd (show false = true from fy) Bool.false_ne_true
def eqU (x : V) (u : Value) : Bool := match u with
  | .none => eqV .non x
  | .bool b => eqV (.bl b) x
  | .int i _ => eqV (.int i) x
  | .str z _ => eqV (.str z) x
  | _ => false
theorem eqU_of {x y : V} {u : Value} (r : RelV y u) (f : flatV y = true) : eqU x u = eqV y x := by
  cases y with
  | non => cases r; rfl
  | bl b => cases r; rfl
  | int i => obtain ⟨t, rfl⟩ := r; rfl
  | str z => obtain ⟨t, rfl⟩ := r; rfl
  | _ => exact absurd (show false = true from f) Bool.false_ne_true
theorem any_eqU {x : V} : ∀ {xs : List V} {us : List Value}, Vals xs us → xs.all flatV = true → us.any (eqU x) = xs.any fun y => eqV y x
  | _, _, .nil, _ => rfl
  | y :: xs, u :: us, .cons r t, f => by
    rw [List.all_cons, Bool.and_eq_true] at f
    rw [List.any_cons, List.any_cons, eqU_of r f.1, any_eqU t f.2]
theorem mem_eqAt {A : Around} {s : Shared} {x : V} {v : Value} (rx : RelV x v) (fx : flatV x = true) : ∀ {xs : List V} {us : List Value}, Vals xs us → xs.all flatV = true → ∀ u ∈ us, SeqAt.EqAt A s u v (eqU x u)
  | _, _, .nil, _ => fun u hu => by cases hu
  | y :: xs, u :: us, .cons r t, f => fun u' hu => by
    rw [List.all_cons, Bool.and_eq_true] at f
    rcases List.mem_cons.mp hu with rfl | hu
    · rw [eqU_of r f.1]; exact eqAt_V r rx f.1 fx
    · exact mem_eqAt rx fx t f.2 u' hu
def inV (x : V) (xs : List V) : Bool := xs.any fun y => eqV y x
def rIn (K : PySem.W.Frag) (neg : Bool) : R2 := fun x y H Q => ∃ p xs, y = .ref p ∧ (SqL K H p xs ∨ SqT K H p xs) ∧ flatV x = true ∧ xs.all flatV = true ∧ Q (.bl (if neg then !inV x xs else inV x xs)) H
theorem op_notIn_seq : OpR X (compareOp .NotIn) (rIn X.K true) := by
  intro pins s σ H x y v u Q I rx ry h
  obtain ⟨p, xs, rfl, hq, fx, fs, q⟩ := h
  cases ry
  rcases hq with hq | hq
  · obtain ⟨its, r, pl, hz⟩ := I.list hq
    refine SeqAt.notIn_listAt (eqU x) pl.isList (fun w hw => mem_eqAt rx fx r fs w (by simpa using hw)) ⟨.bl _, H, I, rfl, ?_⟩
    rw [show its.toArray.any (eqU x) = its.any (eqU x) by simp, any_eqU r fs]
    exact q
  · obtain ⟨its, r, pl, hz⟩ := I.tuple hq
    refine SeqAt.notIn_tupleAt (eqU x) pl (fun w hw => mem_eqAt rx fx r fs w (by simpa using hw)) ⟨.bl _, H, I, rfl, ?_⟩
    rw [show its.toArray.any (eqU x) = its.any (eqU x) by simp, any_eqU r fs]
    exact q
theorem call_len_seq : CallR X (.builtin "len") (fun xs H Q => ∃ p ys, xs = [.ref p] ∧ (SqL X.K H p ys ∨ SqT X.K H p ys) ∧ Q (.int ys.length) H) := by
  intro pins s σ H xs us Q I r h
  obtain ⟨p, ys, rfl, hq, q⟩ := h
  obtain ⟨u, rfl, rx⟩ := vals1 r
  cases rx
  have hn := line63
  rcases hq with hq | hq
  · obtain ⟨its, r', pl, hz⟩ := I.list hq
    have hlen := r'.length
    exact Calls.call_len_list pl.isList (by simp only [List.size_toArray] <;> omega) ⟨.int ys.length, H, I.tok _, ⟨s.toks + 1, by rw [List.size_toArray, hlen]⟩, q⟩
  · obtain ⟨its, r', pl, hz⟩ := I.tuple hq
    have hlen := r'.length
    exact len_tuple pl (by simp only [List.size_toArray] <;> omega) ⟨.int ys.length, H, I.tok _, ⟨s.toks + 1, by rw [List.size_toArray, hlen]⟩, q⟩
theorem call_list_of : CallR X (.type "list") (fun xs H Q => ∃ p ys, xs = [.ref p] ∧ (SqL X.K H p ys ∨ SqT X.K H p ys) ∧ ∀ l, H l = none → Q (.ref l) (upd H l (.lst ys))) := by
  intro pins s σ H xs us Q I r h
  obtain ⟨p, ys, rfl, hq, q⟩ := h
  obtain ⟨u, rfl, rx⟩ := vals1 r
  cases rx
  have fin : ∀ (its : List Value), Vals ys its → ys.length ≤ sizeLine → ∀ (h' : Heap) (c' : Nat), (∀ b o', s.heap.get? b = some o' → h'.get? b = some o') →
      h'.get? s.heap.objs.size = some { cls := .type "list", dict := none, data := .seq its.toArray c', slots := #[] } → EP X pins σ Q (.ref s.heap.objs.size) { s with heap := h' } := fun its r' hz h' c' kp e =>
    ⟨.ref s.heap.objs.size, _, I.laid (t' := s.toks) kp (Nat.le_refl _) (show ObjOk X.prog X.w _ h' _ (.lst ys) from ⟨hz, its, c', r', e⟩), rfl, q _ (I.hok.fresh (Nat.le_refl _))⟩
  rcases hq with hq | hq
  · obtain ⟨its, r', pl, hz⟩ := I.list hq
    have hlen := r'.length
    obtain ⟨o, ho, hc, n, hd⟩ := pl.isList
    exact call_list_seq p (.inl rfl) ho hc hd (fun h' c' kp e => fin its r' hz h' c' kp e) (by simp only [List.size_toArray] <;> omega)
  · obtain ⟨its, r', pl, hz⟩ := I.tuple hq
    have hlen := r'.length
    obtain ⟨o, ho, hc, n, hd⟩ := pl
    exact call_list_seq p (.inr rfl) ho hc hd (fun h' c' kp e => fin its r' hz h' c' kp e) (by simp only [List.size_toArray] <;> omega)
def tyV (K : PySem.W.Frag) (T : String) (x : V) (H : Hp) : Prop := match x with
  | .str _ => T = "str"
  | .int _ => T = "int"
  | .ref p => (T = "list" ∧ ∃ xs, SqL K H p xs) ∨ (T = "tuple" ∧ ∃ o, K.lookup p = some o ∧ o.cls = .type "tuple" ∧ o.dict = none) ∨
      (T = "dict" ∧ ((∃ kvs, H p = some (.dK kvs)) ∨ ∃ kvs, H p = some (.dT kvs))) ∨ (T = "set" ∧ ∃ S n, H p = some (.set S n))
  | _ => False
theorem tyV_is {pins : List (Addr × Obj)} {σ : St} {H : Hp} {s : Shared} {T : String} {x : V} {v : Value} (I : Inv X pins σ H s) (r : RelV x v) (ty : tyV X.K T x H) :
    s.TypeIs v T ∧ ∀ a, v = .ref a → ∃ ob, s.heap.get? a = some ob ∧ ob.dict = none := by
  cases x with
  | str z =>
    obtain ⟨t, rfl⟩ := r
    cases (show T = "str" from ty)
    exact ⟨typeIs_str s z t, fun _ e => nomatch e⟩
  | int i =>
    obtain ⟨t, rfl⟩ := r
    cases (show T = "int" from ty)
    exact ⟨typeIs_int s i t, fun _ e => nomatch e⟩
  | ref p =>
    cases r
    rcases ty with ⟨rfl, xs, hq⟩ | ⟨rfl, o, hk, hc, hd⟩ | ⟨rfl, hk⟩ | ⟨rfl, S, n, hk⟩
    · obtain ⟨its, _, pl, _⟩ := I.list hq
      refine ⟨pl.isList.typeIs, fun a e => ?_⟩
      cases e
      obtain ⟨o, n, e, c, hd, _⟩ := pl
      exact ⟨o, e, hd⟩
    · refine ⟨⟨o, I.kIn p o hk, hc⟩, fun a e => ?_⟩
      cases e
      exact ⟨o, I.kIn _ o hk, hd⟩
    · have z : ∃ o, s.heap.get? p = some o ∧ o.ExactDict := by
        rcases hk with ⟨kvs, hk⟩ | ⟨kvs, hk⟩
        · obtain ⟨_, _, _, _, o, _, _, e, ex, _⟩ := I.hok p _ hk
          exact ⟨o, e, ex⟩
        · obtain ⟨_, _, _, _, o, _, _, e, ex, _⟩ := I.hok p _ hk
          exact ⟨o, e, ex⟩
      obtain ⟨o, e, ex⟩ := z
      refine ⟨⟨o, e, ex.1⟩, fun a e2 => ?_⟩
      cases e2
      exact ⟨o, e, ex.2.1⟩
    · obtain ⟨o, _, _, _, e, ex, _⟩ := I.hok p _ hk
      refine ⟨⟨o, e, ex.1⟩, fun a e2 => ?_⟩
      cases e2
      exact ⟨o, e, ex.2.1⟩
  | _ => exact False.elim ty
def tBM (K : PySem.W.Frag) (T : String) (r : V → List V → Hp → VK → Prop) (to : TE) (t : TA) : TE := fun σ H Q => to σ H fun x H1 => tyV K T x H1 ∧ t σ H1 fun xs H2 => r x xs H2 Q
variable {o e : Expr} {es : List Expr} {to : TE} {t : TA} {name : Str} {apos cpos : Pos} {T id : String} {r : V → List V → Hp → VK → Prop}
theorem pe_bm (pa : PlainAttrs T) (slot : Slot T name id) (hty : typeOf (.builtin id) = pure (.type "method_descriptor")) (hm : MtR X id r) (ho : PE X o to) (ha : PA X (e :: es) t)
    (hbase : attributeBase o name X.env (eval o X.env) = eval o X.env := by rfl)
    (hfew : ((backTo cpos (starEach (e :: es) X.env)).all (fun x => !x.1) && (backToKw cpos (keywordEach [] X.env)).all (fun x => x.1.isSome)
      && decide ((e :: es).length + ([] : List Keyword).length + (if ([] : List Keyword).isEmpty then 0 else 1) < 30)) = true := by rfl)
    (hline : (apos.endLine == cpos.line) = true := by rfl) (hs : starEach (e :: es) X.env = (false, eval e X.env) :: starEach es X.env := by rfl) (hplain : (backTo cpos (starEach es X.env)).any (·.1) = false := by rfl) :
    PE X (.Call (.Attribute o name apos) (e :: es) [] cpos) (tBM X.K T r to t) := by
  intro pins s σ H Q I h
  refine wpAny_Call_method_late hbase hfew hline rfl (thn (ho pins s σ H _ I h) fun v s1 ⟨x, H1, I1, r1, ty, q1⟩ => ?_)
  obtain ⟨h1, h2⟩ := tyV_is I1 r1 ty
  refine ⟨T, id, pa, slot, hty, h1, h2, ?_⟩
  have hA := ha cpos pins s1 σ H1 _ I1 q1
  rw [hs] at hA ⊢
  refine Calls.callWith_builtin (by show (false || (backTo cpos (starEach es X.env)).any (·.1)) = false; rw [hplain] <;> rfl) (Calls.evalArgs_plain ?_)
  exact thn hA fun us s2 ⟨vs, H2, I2, r2, q2⟩ => hm pins s2 σ H2 x vs v us Q I2 r1 r2 q2
end
end L2
namespace L2
open PySem PySem.Spec PyProof.Rows
def MtM (X : Cx) (id : String) (r : V → List V → Hp → VK → Prop) : Prop :=
  ∀ (pins : List (Addr × Obj)) (s : Shared) (σ : St) (H : Hp) (x : V) (xs : List V) (v : Value) (us : List Value) (Q : VK), Inv X pins σ H s → RelV x v → Vals xs us → r x xs H Q →
    wpAny (model X.prog X.w) X.A (call (.builtin id) (v :: us)) (EP X pins σ Q) X.xe s

theorem Vals.one : ∀ {x : V} {us : List Value}, Vals [x] us → ∃ u, us = [u] ∧ RelV x u
  | _, _, .cons r .nil => ⟨_, rfl, r⟩
theorem Vals.two : ∀ {x y : V} {us : List Value}, Vals [x, y] us → ∃ u v, us = [u, v] ∧ RelV x u ∧ RelV y v
  | _, _, _, .cons r (.cons q .nil) => ⟨_, _, rfl, r, q⟩
theorem Vals.zero : ∀ {us : List Value}, Vals [] us → us = []
  | _, .nil => rfl
theorem Vals.reverse {xs : List V} {us : List Value} (h : Vals xs us) : Vals xs.reverse us.reverse := by
  induction h with
  | nil => exact .nil
  | cons r t ih => rw [List.reverse_cons, List.reverse_cons]; exact Vals.append ih (.cons r .nil)
theorem Vals.rep {xs : List V} {us : List Value} (h : Vals xs us) : ∀ k : Nat, Vals (List.replicate k xs).flatten (List.replicate k us).flatten
  | 0 => .nil
  | k + 1 => by
    rw [List.replicate_succ, List.replicate_succ, List.flatten_cons, List.flatten_cons]
    exact Vals.append h (Vals.rep h k)
theorem foldl_rep (its : List Value) : ∀ (k : Nat) (acc : List Value),
    List.foldl (fun x1 x2 => x1 ++ x2) acc.toArray (List.replicate k its.toArray) = (acc ++ (List.replicate k its).flatten).toArray
  | 0, acc => by simp
  | k + 1, acc => by
    have e : acc.toArray ++ its.toArray = (acc ++ its).toArray := by simp
    have e2 : (acc ++ its) ++ (List.replicate k its).flatten = acc ++ (List.replicate (k + 1) its).flatten := by
      rw [List.replicate_succ, List.flatten_cons, List.append_assoc]
    rw [← e2, ← foldl_rep its k (acc ++ its), ← e, List.replicate_succ, List.foldl_cons]

section
variable {X : Cx} {pins : List (Addr × Obj)} {σ : St} {H : Hp} {s : Shared} {l b : Addr} {xs ys zs : List V}
theorem Inv.lset {its its' : List Value} {n : Nat} {f : Array Value → Array Value} {t' : Nat} (I : Inv X pins σ H s) (hH : H l = some (.lst xs))
    (e : s.heap.get? l = some { cls := .type "list", data := .seq its.toArray n }) (hf : f its.toArray = its'.toArray) (hv : Vals ys its') (hz : ys.length ≤ sizeLine) :
    Inv X pins σ (upd H l (.lst ys)) { s with heap := s.heap.update l (Obj.mapSeq f), toks := t' } := by
  have q := PySem.IsL.update e f
  rw [hf] at q
  refine I.write (x := l) (e := l) (by rw [hH]; exact trivial) (.inl rfl) (fun b' u hb hu => (Heap.get?_update_other s.heap (Obj.mapSeq f) (Ne.symm hb)).trans hu) ⟨_, q⟩ ?_
  exact ⟨hz, its', _, hv, q⟩
theorem Inv.lnew {its : List Value} {t' : Nat} (I : Inv X pins σ H s) (hv : Vals ys its) (hz : ys.length ≤ sizeLine) :
    Inv X pins σ (upd H s.heap.objs.size (.lst ys)) { s with heap := s.heap.push { cls := .type "list", data := .seq its.toArray }, toks := t' } :=
  I.laid (fun _ _ q => Heap.get?_push_of_some _ q) (Nat.le_refl _) ⟨hz, its, 0, hv, Heap.get?_push_size _ rfl⟩
theorem Inv.fresh (I : Inv X pins σ H s) : H s.heap.objs.size = none := I.hok.fresh (Nat.le_refl _)
theorem Inv.lstM (I : Inv X pins σ H s) (hH : H l = some (.lst xs)) : xs.length ≤ sizeLine ∧ ∃ (its : List Value) (n : Nat), Vals xs its ∧ xs.length = its.length ∧ s.heap.get? l = some { cls := .type "list", data := .seq its.toArray n } := by
  obtain ⟨z, its, n, r, e⟩ := I.hok l _ hH
  exact ⟨z, its, n, r, r.length, e⟩

theorem notLongL {n : Nat} (h : n ≤ sizeLine) : Builtin.List.listTooLong n = false := by
  unfold Builtin.List.listTooLong
  exact decide_eq_false (by omega)
end
section
variable {X : Cx}
def rAppend : V → List V → Hp → VK → Prop := fun x vs H Q => ∃ l xs y, x = .ref l ∧ vs = [y] ∧ H l = some (.lst xs) ∧ xs.length < sizeLine ∧ Q .non (upd H l (.lst (xs ++ [y])))
theorem mt_append : MtM X "list.append" rAppend := by
  intro pins s σ H x vs v us Q I rx rv h
  obtain ⟨l, xs, y, rfl, rfl, hH, hz, q⟩ := h
  cases rx
  obtain ⟨u, rfl, ru⟩ := rv.one
  obtain ⟨z, its, n, r, hl, e⟩ := I.lstM hH
  refine call_meets F.slot_list_append ⟨_, e, rfl⟩ F.entry_list_append (F.args_list_append_2 _ _) (PySem.list_append l its.toArray n u (by rw [List.size_toArray]; omega)) ⟨e, ?_⟩
  refine ⟨.non, _, I.lset (its' := its ++ [u]) hH e (by simp) (r.append (.cons ru .nil)) ?_, rfl, q⟩
  rw [List.length_append, List.length_singleton]
  omega

def rCat : R2 := fun x y H Q => ∃ l b xs zs, x = .ref l ∧ y = .ref b ∧ H l = some (.lst xs) ∧ H b = some (.lst zs) ∧ xs.length + zs.length ≤ sizeLine ∧ ∀ p, H p = none → Q (.ref p) (upd H p (.lst (xs ++ zs)))
theorem op_cat : OpR X (binaryOp .Add) rCat := by
  intro pins s σ H x y v u Q I rx ry h
  obtain ⟨l, b, xs, zs, rfl, rfl, hH, hB, hz, q⟩ := h
  cases rx
  cases ry
  obtain ⟨z, its, n, r, hl, e⟩ := I.lstM hH
  obtain ⟨z2, its2, n2, r2, hl2, e2⟩ := I.lstM hB
  refine PySem.P.add_list e e2 ?_ (by rw [List.size_toArray, List.size_toArray]; omega)
  have ea : its.toArray ++ its2.toArray = (its ++ its2).toArray := by simp
  rw [ea]
  exact ⟨.ref _, _, I.lnew (t' := s.toks) (r.append r2) (by rw [List.length_append]; omega), rfl, q _ I.fresh⟩
def rRep : R2 := fun x y H Q => ∃ l k xs, x = .ref l ∧ y = .int k ∧ H l = some (.lst xs) ∧ -(2 ^ 63) ≤ k ∧ k < 2 ^ 63 ∧ xs.length * k.toNat ≤ sizeLine ∧
  ∀ p, H p = none → Q (.ref p) (upd H p (.lst (List.replicate k.toNat xs).flatten))
theorem len_rep {α : Type} (xs : List α) (k : Nat) : (List.replicate k xs).flatten.length = k * xs.length := by
  induction k with
  | zero => simp
  | succ k ih => rw [List.replicate_succ, List.flatten_cons, List.length_append, ih, Nat.succ_mul, Nat.add_comm]
theorem op_rep : OpR X (binaryOp .Mult) rRep := by
  intro pins s σ H x y v u Q I rx ry h
  obtain ⟨l, k, xs, rfl, rfl, hH, h1, h2, hz, q⟩ := h
  cases rx
  obtain ⟨t, rfl⟩ := ry
  obtain ⟨z, its, n, r, hl, e⟩ := I.lstM hH
  have hlen : its.toArray.size * k.toNat ≤ sizeLine := by rw [List.size_toArray, ← hl]; exact hz
  have hcap : ¬ its.toArray.size * k.toNat > (2 ^ 63 - 1) / 8 := by
    have : (sizeLine : Nat) ≤ (2 ^ 63 - 1) / 8 := by decide
    omega
  have hfit : ¬ (!Builtin.List.listFitsIndex k) = true := by
    rw [fitsIndex_both h1 h2]
    exact Bool.false_ne_true
  have hlong : ¬ Builtin.List.listTooLong (its.toArray.size * k.toNat) = true := by
    rw [notLongL hlen]
    exact Bool.false_ne_true
  have hnew : List.foldl (fun x1 x2 => x1 ++ x2) #[] (List.replicate (if its.toArray.isEmpty = true then 0 else k.toNat) its.toArray) = (List.replicate k.toNat its).flatten.toArray := by
    have f0 : ∀ m : Nat, List.foldl (fun x1 x2 => x1 ++ x2) #[] (List.replicate m its.toArray) = (List.replicate m its).flatten.toArray := fun m => by
      have := foldl_rep its m []
      rw [List.nil_append] at this
      exact this
    rw [f0]
    cases its with
    | nil => simp
    | cons a r' => rw [if_neg (by simp)]
  refine wpAny_binaryOp_repeat_ref (T := "list") (U := "int") (by decide) ⟨_, e, rfl⟩ (fun s' => typeIs_int s' k t) noFill_list_mul F.fills_int_mul F.slot_int_rmul repeat_list F.slot_int_index.lookup
    (call_meets F.slot_int_rmul (typeIs_int s k t) F.entry_int_rmul (F.args_int_rmul_2 _ _) (int___rmul___int_list k t l its.toArray n)
      ⟨e, rfl, ⟨_, e, rfl⟩, call_meets F.slot_list_mul ⟨_, e, rfl⟩ F.entry_list_mul (F.args_list_mul_2 _ _) (AutoListH.list___mul___list_int_3 l its.toArray n k t hfit hcap hlong) ⟨e, ?_⟩⟩)
  rw [hnew]
  exact ⟨.ref _, _, I.lnew (t' := s.toks) (r.rep k.toNat) (by rw [len_rep, Nat.mul_comm]; exact hz), rfl, q _ I.fresh⟩

end
section
variable {prog : Program} {w : World} {A : Around} {E : Value → Shared → Prop} {s : Shared}
end
section
variable {X : Cx}
end
end L2
namespace Att
open PySem PySem.W PySem.Calls PyProof.Rows
theorem ints_of_wellAll {P : Params} {h : Heap} : ∀ (ns : List Int) (vs : List Value), WellAll P h vs (ns.map WData.int) → IntsAre vs ns := by
  intro ns
  induction ns with
  | nil =>
    intro vs w
    rw [List.map_nil] at w
    cases w
    exact .nil
  | cons n ns ih =>
    intro vs w
    rw [List.map_cons] at w
    cases w with
    | cons a b =>
      cases a
      exact .cons _ _ (ih _ b)

theorem script_of {l : OpenLaw} {n : Nat} (hn : l.most = some n) {P : Params} {h : Heap} {args : List WData} {vals : List Value}
    (hpre : l.row.toRowW.claim.pre args = true) (hwl : WellAll P h vals args) :
    ∃ a vs ns, vals = [Value.ref a] ∧ args = [WData.list (ns.map WData.int)] ∧ h.get? a = some { cls := .type "list", data := .seq vs.toArray } ∧ IntsAre vs ns ∧ ns.length ≤ n := by
  have hsh : WShape.hasAll [] args [.list .int] = true := (pre_splitW hpre).1
  have hc : l.pre.holds [] { args := args } = true := (pre_splitW hpre).2
  obtain ⟨d, r, rfl, h1, h2⟩ := hasAllW_cons hsh
  obtain rfl := hasAllW_nil h2
  obtain ⟨xs, rfl, h3⟩ := hasW_list h1
  obtain ⟨ns, rfl⟩ := items_int h3
  have hlen : ns.length ≤ n := by
    unfold OpenLaw.pre at hc
    have h4 : (WTm.not (.lt (.lit (.int (n : Int))) (.len (.arg 0)))).holds [] { args := [.list (ns.map .int)] } = true := by
      have h4 := (holds_andW hc).1
      rw [hn] at h4
      exact h4
    have h5 := condW_of h4 (w_not (w_lt w_lit (w_len_list (w_arg rfl))))
    rw [List.length_map] at h5
    refine Nat.le_of_not_lt fun q => ?_
    have q' : (n : Int) < ((ns.length : Nat) : Int) := by omega
    first
      | (rw [decide_eq_true q'] at h5; exact absurd h5 (by decide))
      | (simp at h5; omega)
  cases hwl with
  | cons w1 w2 =>
    cases w2
    cases w1 with
    | list ho hall => exact ⟨_, _, ns, rfl, rfl, ho, ints_of_wellAll ns _ hall, hlen⟩

theorem post_true (l : OpenLaw) (args : List WData) : l.row.toRowW.claim.post args (.bool true) args = true :=
  postW_of (r := l.row.toRowW) (X := (true == true))
    (show WShape.has [] (.bool true) .bool = true by first | rfl | decide | simp [WShape.has, WShape.arms, WShape.armsAll])
    (show (WTm.eq .res (.lit (.bool true))).value [] { args := args, res := some (.bool true), after := args } = some (.bool (true == true)) from w_eq_bool (w_res rfl) w_lit) rfl

theorem attach_call {l : OpenLaw} {n : Nat} {q : Program} {loose : List Str} {XP : (Str → Option Value) → Heap → Prop} {YP : World → Heap → Prop} {d : DefRec}
    (hn : l.most = some n) (hdf : d.params.defaults = [])
    (call : ∀ (w : World) (s₀ s₁ : Shared) (mg mb : Str → Option Value) (fa : Addr) (o : Obj) (pm cd doc : Value) (a : Addr) (vs : List Value) (ns : List Int),
      Ground q loose [] XP w s₀ mg mb s₁.heap → YP w s₁.heap →
      s₁.heap.get? fa = some o → o.data = .func (docDef d.name d.params d.body d.scope pm cd doc) → s₁.heap.CodeRec cd d.name → mg d.name = some (.ref fa) →
      s₁.heap.get? a = some { cls := .type "list", data := .seq vs.toArray } → IntsAre vs ns → ns.length ≤ n → s₁.gens = #[] →
      codeAny (model l.prog w) callerA (.call (.ref fa) ⟨[.ref a], []⟩) (fun r s' => r = .ok (.ret (.bool true)) ∧ OldK s₁.heap s'.heap ∧ s'.os = s₁.os ∧ AllBare s'.gens) s₁) :
    WalkO q loose XP YP l.row.toRowW d [] (fun f vs => PySem.call f vs) := by
  intro w s₀ s₁ mg mb G Y fa o pm cd doc dV kV ho hd hcd hD hmg hg args vals as hpre hlay hrd hwl hlo
  obtain rfl : dV = .none := Dflts.none hD hdf
  obtain rfl : kV = .none := Dflts.noKw hD
  obtain ⟨a, vs, ns, rfl, rfl, hobj, hints, hlen⟩ := script_of hn hpre hwl
  refine enter_call (codeAny_mono (call w s₀ s₁ mg mb fa o pm cd doc a vs ns G Y ho (fd_plain hd) hcd hmg hobj hints hlen hg) fun r s' hq => ?_)
  obtain ⟨rfl, h2, h3, h4⟩ := hq
  exact ⟨.inl ⟨.bool true, .bool true, [], rfl, fun _ => rfl, .bool true, post_true l _, fun _ => ⟨List.Pairwise.nil, fun _ hm => (nomatch hm)⟩⟩, h2, h3, h4⟩

section
variable {prog : Program} {w : World} {A : Around} {E : Value → Shared → Prop} {s : Shared} {K : Frag}
end
end Att
namespace L2
open PySem PySem.Spec PyProof.Rows
theorem vals_ints : ∀ {vs : List Value} {ns : List Int}, IntsAre vs ns → Vals (ns.map V.int) vs
  | _, _, .nil => .nil
  | _, _, .cons n t h => .cons ⟨t, rfl⟩ (vals_ints h)

def Only (H : Hp) : Prop := ∀ b, H b = none ∨ ∃ o xs, H b = some (.frz o (.lst xs))

theorem law_call {P : Program} {w : World} {K : PySem.W.Frag} {mg mb : Str → Option Value} {CX : CXT} {k : Nat} {fa a : Addr} {fd : FuncData} {x : Str} {sp : Sp} {s₁ : Shared} {vs : List Value} {ns : List Int}
    (KX : K.In s₁.heap) (hns : s₁.heap.Ns mainGlobals mg) (hb : s₁.heap.Ns builtinsNs mb) (hbb : ∀ x : Str, x ≠ "__name__" → mb x = bootBuiltins x) (hlim : s₁.heap.NoLimit) (hg : s₁.gens = #[])
    (ha : s₁.heap.get? a = some { cls := .type "list", data := .seq vs.toArray }) (hi : IntsAre vs ns) (hl : ns.length ≤ sizeLine) (hr : Room k callerA)
    (F : ∀ base : Heap, K.In base → base.Ns mainGlobals mg → FnOk P w K mg base CX k fa fd [x] sp) (hbind : ∀ (s : Shared) (u : Value), BindsTo s fd ⟨[u], []⟩ [(x, u)])
    (hsp : ∀ H : Hp, Only H → SqL K H a (ns.map V.int) → sp [.ref a] H (fun v _ => v = .bl true) fun _ _ _ => False)
    (hCX : ∀ H e s', CX [] H s₁ (fun _ _ _ => False) e s' → False) :
    codeAny (model P w) callerA (.call (.ref fa) ⟨[.ref a], []⟩) (fun r s' => r = .ok (.ret (.bool true)) ∧ OldK s₁.heap s'.heap ∧ s'.os = s₁.os ∧ AllBare s'.gens) s₁ := by
  have rv := vals_ints hi
  have lenV := hi.length
  -- from an abstract heap in which nothing but the script may be tracked
  have core : ∀ H : Hp, Only H → SqL K H a (ns.map V.int) → HOk P w H s₁.heap → (∀ b, H b ≠ none → b = a) → (H a ≠ none → K.lookup a = none) →
      codeAny (model P w) callerA (.call (.ref fa) ⟨[.ref a], []⟩) (fun r s' => r = .ok (.ret (.bool true)) ∧ OldK s₁.heap s'.heap ∧ s'.os = s₁.os ∧ AllBare s'.gens) s₁ := by
    intro H hO hS hok hA hK
    have base_of : ∀ {b : Addr} {o : Obj}, s₁.heap.get? b = some o → H b = none → (hidT s₁.heap H).get? b = some o := fun e n => hidT_get e n
    have noA : ∀ {b : Addr} {o : Obj} {es : Array DictEntry} {ep : Nat}, s₁.heap.get? b = some o → o.data = .dict es ep → H b = none := fun {b o es ep} e d => by
      cases q : H b with
      | none => rfl
      | some u =>
        have e' : b = a := hA b (by rw [q]; simp)
        subst e'
        rw [ha] at e; cases e
        have d' : Data.seq vs.toArray _ = Data.dict es ep := d
        cases d'
    have nsK : ∀ {b : Addr} {m : Str → Option Value}, s₁.heap.Ns b m → (hidT s₁.heap H).Ns b m := fun {b m} ⟨o, es, ep, e, d, r⟩ => ⟨o, es, ep, base_of e (noA e d), d, r⟩
    have hKb : K.In (hidT s₁.heap H) := fun b o e => base_of (KX b o e) (by
      cases q : H b with
      | none => rfl
      | some u =>
        have e' : b = a := hA b (by rw [q]; simp)
        subst e'
        rw [hK (by rw [q]; simp)] at e; cases e)
    have hM : Mod K mg (hidT s₁.heap H) := ⟨hKb, nsK hns, ⟨mb, nsK hb, hbb⟩, let ⟨mc, h1, h2⟩ := hlim; ⟨mc, nsK h1, h2⟩⟩
    have e0 : Env0 P w K mg (hidT s₁.heap H) callerA [] s₁ H := ⟨rfl, hM, fun b o e => of_hidT e, Nat.le_of_eq (hidT_size _ _), trivial, fun b hb => absurd (show b ∈ ([] : List Addr) from hb) (by simp), hok, .of_eq hg⟩
    refine codeAny_mono ((F _ hKb (nsK hns)).run callerA [] s₁ H ⟨[.ref a], []⟩ [.ref a] [.ref a] _ _ hr e0 (hbind s₁ (.ref a)) (.cons rfl .nil) (hsp H hO hS)) fun r s' h => ?_
    cases r with
    | error e => exact (hCX H e s' h).elim
    | ok fl =>
      cases fl with
      | next => exact False.elim h
      | brk => exact False.elim h
      | cont => exact False.elim h
      | ret u =>
        obtain ⟨v, H', os, bare, un, hok', r', q⟩ := h
        have q' : v = .bl true := q
        subst q'
        obtain rfl : u = Value.bool true := r'
        refine ⟨rfl, OldK.of_keep fun b o e => ?_, os, bare⟩
        cases q : H b with
        | none => exact un.keep b o e q (by intro z; exact absurd (show b ∈ ([] : List Addr) from z) (by simp)) (by simp)
        | some u =>
          rcases hO b with z | ⟨ob, xs, z⟩
          · rw [q] at z; cases z
          · have z2 := un.frzs b ob _ z
            obtain ⟨e1, _⟩ := hok b _ z
            obtain ⟨e2, _⟩ := hok' b _ z2
            rw [e] at e1; cases e1
            exact e2
  cases hk : K.lookup a with
  | some o =>
    -- the script is one of the module's own objects
    have e := KX a o hk
    rw [ha] at e
    cases e
    refine core (fun _ => none) (fun _ => .inl rfl) (.inr ⟨_, vs.toArray, _, hk, rfl, rfl, rfl, by rw [List.size_toArray, lenV]; exact hl, by simpa using rv⟩) (fun b u z => by have z' : (none : Option HO) = some u := z; cases z') (fun b z => absurd rfl z) fun z => absurd rfl z
  | none =>
    refine core (fun b => if b = a then some (.frz { cls := .type "list", data := .seq vs.toArray } (.lst (ns.map V.int))) else none) (fun b => ?_) (.inl (.inr ⟨{ cls := .type "list", data := .seq vs.toArray }, if_pos rfl⟩)) (fun b u z => ?_) (fun b z => ?_) fun _ => hk
    · by_cases hb : b = a
      · exact .inr ⟨_, _, if_pos hb⟩
      · exact .inl (if_neg hb)
    · by_cases hb : b = a
      · have z' := (if_pos hb).symm.trans z
        cases z'
        subst hb
        exact ⟨ha, by rw [List.length_map]; exact hl, vs, _, rv, ha⟩
      · have z' := (if_neg hb).symm.trans z
        cases z'
    · by_cases hb : b = a
      · exact hb
      · exact absurd (if_neg hb) z
end L2
namespace L2
open PySem PySem.Spec PyProof.Rows
theorem walk_of {l : PySem.W.OpenLaw} {n k : Nat} {q : Program} {loose : List Str} {XP : (Str → Option Value) → Heap → Prop} {YP : World → Heap → Prop} {d : DefRec} {K : Params → PySem.W.Frag} {CX : World → CXT} {sp : World → Sp} {x : Str}
    (hn : l.most = some n) (hn2 : n ≤ sizeLine) (hdf : d.params.defaults = []) (hr : Room k callerA)
    (hY : ∀ (w : World) (h : Heap), YP w h → (K w.params).In h)
    (F : ∀ (w : World) (mg : Str → Option Value) (fa : Addr) (h : Heap), (K w.params).In h → h.Ns mainGlobals mg → mg d.name = some (.ref fa) →
      ∃ fd : FuncData, (∀ (s : Shared) (u : Value), BindsTo s fd ⟨[u], []⟩ [(x, u)]) ∧
        ∀ base : Heap, (K w.params).In base → base.Ns mainGlobals mg → FnOk l.prog w (K w.params) mg base (CX w) k fa fd [x] (sp w))
    (hsp : ∀ (w : World) (H : Hp) (a : Addr) (ns : List Int), ns.length ≤ n → Only H → SqL (K w.params) H a (ns.map V.int) → sp w [.ref a] H (fun v _ => v = .bl true) fun _ _ _ => False)
    (hCX : ∀ (w : World) (H : Hp) (s : Shared) (e : Value) (s' : Shared), CX w [] H s (fun _ _ _ => False) e s' → False) :
    PySem.W.WalkO q loose XP YP l.row.toRowW d [] (fun f vs => PySem.call f vs) := by
  refine Att.attach_call hn hdf fun w s₀ s₁ mg mb fa o pm cd doc a vs ns G Y ho hd hcd hmg hobj hints hlen hg => ?_
  have KX := hY w _ Y
  obtain ⟨fd, hb, hF⟩ := F w mg fa _ KX G.T.g hmg
  exact law_call KX G.T.g G.T.b G.T.builtins G.T.nolimit hg hobj hints (Nat.le_trans hlen hn2) hr hF hb (fun H hO hS => hsp w H a ns hlen hO hS) fun H e s' => hCX w H s₁ e s'
end L2
namespace L2
open PySem PySem.Spec PyProof.Rows
def defArgs (s : Stmt) : Arguments := match s with
  | .FunctionDef _ a _ _ _ _ _ _ _ _ => a
  | _ => { posonlyargs := [], args := [], vararg := none, kwonlyargs := [], kw_defaults := [], kwarg := none, defaults := [] }
def defBody (s : Stmt) : List Stmt := match s with
  | .FunctionDef _ _ b _ _ _ _ _ _ _ => b
  | _ => []
def defScope (s : Stmt) : Scope := match s with
  | .FunctionDef _ _ _ _ _ _ sc _ _ _ => sc
  | _ => { kind := .function, names := [], isGenerator := false, isCoroutine := false }

abbrev CX0 : CXT := fun _ _ _ _ _ _ => False
abbrev E0 : XK := fun _ _ _ => False
theorem pass0 {X : Cx} : Passes CX0 X E0 := fun _ _ _ _ _ _ _ h => h.elim

structure Fun (K : PySem.W.Frag) (x qual : Str) (st : Stmt) (f : Addr) (fd : FuncData) : Prop where
  ex : ∃ (oc : Value) (od : Option Addr) (kV doc pm : Value) (an : Option Addr) (cdv ct : Value) (osl : Array (Option Value)),
    fd = PySem.W.fnOf x qual (defArgs st) (defBody st) (defScope st) .none kV doc pm an cdv ct ∧ K.lookup f = some ⟨oc, od, .func fd, osl⟩ ∧ PySem.W.codeIn K cdv qual = true
  kp : PySem.W.keepIn K (.ref f) = true
section
variable {P : Program} {w : World} {K : PySem.W.Frag} {mg : Str → Option Value} {base : Heap}
theorem Fun.ok {x qual : Str} {st : Stmt} {f : Addr} {fd : FuncData} {N ps : List Str} {k : Nat} {sp : Sp} (F : Fun K x qual st f fd) (S : FnScope N ps (defScope st)) (len : ∀ vs H Q E, sp vs H Q E → vs.length = ps.length)
    (hbody : ∀ (cdv : Value) (A : Around) (outer : List Env) (s : Shared) (H : Hp) (vs : List V) (Q : VK) (E : XK), Room k (A.deeper (envOfC qual (defScope st) s.heap.objs.size f cdv)) → sp vs H Q E →
      ∃ t, PSs (cxOf CX0 P w K mg base N qual (defScope st) f cdv A outer s H E).nox (defBody st) t ∧ t { nx := fun _ H' => Q .non H', rt := Q } (start N vs) H) : FnOk P w K mg base CX0 (k + 1) f fd ps sp := by
  obtain ⟨oc, od, kV, doc, pm, an, cdv, ct, osl, rfl, lk, hcd⟩ := F.ex
  refine fn_of lk hcd S len fun A outer s H vs Q E hr hsp => ?_
  obtain ⟨t, h, q⟩ := hbody cdv A outer s H vs Q E hr hsp
  exact ⟨t, h.nox, q⟩
theorem Fun.binds {x qual : Str} {st : Stmt} {f : Addr} {fd : FuncData} {ps : List Str} (F : Fun K x qual st f fd)
    (h : ∀ (kV doc pm : Value) (an : Option Addr) (cdv ct : Value) (us : List Value), us.length = ps.length → bindArgs (PySem.W.fnOf x qual (defArgs st) (defBody st) (defScope st) .none kV doc pm an cdv ct) ⟨us, []⟩ = pure (ps.zip us)) : Binds K fd ps [] := by
  obtain ⟨oc, od, kV, doc, pm, an, cdv, ct, osl, rfl, lk, hcd⟩ := F.ex
  exact .all (h kV doc pm an cdv ct)
theorem fun_mk {x qual : Str} {st : Stmt} {f : Addr} {oc : Value} {od an : Option Addr} {osl : Array (Option Value)} {kV doc pm cdv ct : Value} (l : K.lookup f = some ⟨oc, od, .func (PySem.W.fnOf x qual (defArgs st) (defBody st) (defScope st) .none kV doc pm an cdv ct), osl⟩)
    (c : PySem.W.codeIn K cdv qual = true) (k : PySem.W.keepIn K (.ref f) = true) : Fun K x qual st f (PySem.W.fnOf x qual (defArgs st) (defBody st) (defScope st) .none kV doc pm an cdv ct) := ⟨⟨oc, od, kV, doc, pm, an, cdv, ct, osl, rfl, l, c⟩, k⟩
end
section
variable {X : Cx}
theorem pv (i : Nat) {x : Str} {pos : Pos} (hN : X.N[i]? = some x := by rfl) (hv : Vis X.env.scope x := by first | exact Or.inl rfl | exact Or.inr (Or.inl rfl) | exact Or.inr (Or.inr rfl)) (hd : (x == ("__debug__" : Str)) = false := by decide)
    (hcd : (x == ("__classdict__" : Str)) = false := by decide) : PE X (.Name x pos) (tVar i) := pe_var hN hv hd hcd
end
theorem iteF {A B : Prop} (h : B) : if false = true then A else B := by
  rw [if_neg Bool.false_ne_true]
  exact h
theorem iteT {A B : Prop} (h : A) : if true = true then A else B := by
  rw [if_pos rfl]
  exact h
theorem ite2 {c A B : Prop} [Decidable c] (h1 : c → A) (h2 : ¬ c → B) : if c then A else B := by
  by_cases h : c
  · rw [if_pos h]
    exact h1 h
  · rw [if_neg h]
    exact h2 h
def Same (H H' : Hp) : Prop := ∀ b o, H b = some o → H' b = some o
theorem Same.refl (H : Hp) : Same H H := fun _ _ h => h
theorem Same.trans {H H1 H2 : Hp} (a : Same H H1) (b : Same H1 H2) : Same H H2 := fun c o h => b c o (a c o h)
theorem Same.free {H H' : Hp} (e : Same H H') {l : Addr} (h : H' l = Option.none) : H l = Option.none := by
  cases q : H l with
  | none => rfl
  | some o =>
    rw [e l o q] at h
    cases h
theorem Same.seq {K : PySem.W.Frag} {H H' : Hp} {a : Addr} {xs : List V} (e : Same H H') (h : SqL K H a xs) : SqL K H' a xs := by
  rcases h with (h | ⟨o, h⟩) | h
  · exact .inl (.inl (e _ _ h))
  · exact .inl (.inr ⟨o, e _ _ h⟩)
  · exact .inr h

end L2
set_option Elab.async false
set_option linter.all false
set_option maxRecDepth 100000
set_option maxHeartbeats 5000000
namespace L2
open PySem PySem.Spec PyProof.Rows
section
variable {A : Around} {prog : Program} {w : World} {s : Shared} {R : Result → Shared → Prop}
theorem compLoop_any {el tgt src : Expr} {tests : List Expr} {sc : Scope} {ps : Pos} {itv ac : Value} {env : Env} (J : Nat → Shared → Prop)
    (trn : ∀ k t, J k t → wpAny (model prog w) A (pyNext itv) (fun z t₁ => match z with
      | none => R (.ok .next) t₁
      | some v => wpAny (model prog w) A (letOwnedTupleGo tgt itv v) (fun _ t₁ => wpAny (model prog w) A (assign tgt env v) (fun _ t₂ =>
          wpAny (model prog w) A (forIn tests true fun tst go => if go = true then do let yes ← isTrue tst env (eval tst env); pure (ForInStep.yield yes) else pure (ForInStep.yield go)) (fun yes t₃ =>
            if yes = true then wpAny (model prog w) A (eval el env) (fun x t₄ =>
              wpAny (model prog w) A (call (.builtin "list.append") [ac, x]) (fun _ t₅ => ∃ m, m < k ∧ J m t₅) (fun _ _ => False) t₄) (fun _ _ => False) t₃
            else ∃ m, m < k ∧ J m t₃) (fun _ _ => False) t₂) (fun _ _ => False) t₁) (fun _ _ => False) t₁) (fun _ _ => False) t)
    (k : Nat) (h : J k s) : codeAny (model prog w) A (.compLoop (.ListComp el [⟨tgt, src, tests, 0⟩] sc ps) 0 itv ac env) R s := by
  refine codeAny_loop rfl J (fun k t hJ => ?_) k h
  refine (wpAny_noted (m := compTurn (.ListComp el [⟨tgt, src, tests, 0⟩] sc ps) 0 itv ac env) ?_ : wpAny _ A _ _ _ t)
  rw [compTurn_list]
  refine wpAny_bind (wpAny_standAt (wpAny_bind (wpAny_mono (trn k t hJ) (fun z t₁ q₁ => ?_) fun _ _ f => f.elim)))
  cases z with
  | none => exact wpAny_pure q₁
  | some v =>
    refine wpAny_bind (wpAny_mono q₁ (fun _ t₁ q₁ => ?_) fun _ _ f => f.elim)
    refine wpAny_bind (wpAny_mono q₁ (fun _ t₂ q₂ => wpAny_bind (wpAny_mono q₂ (fun yes t₃ q₃ => ?_) fun _ _ f => f.elim)) fun _ _ f => f.elim)
    cases yes with
    | false => exact wpAny_pure (And.intro rfl q₃)
    | true =>
      exact wpAny_bind (wpAny_bind (wpAny_mono q₃ (fun x t₄ q₄ => wpAny_bind (wpAny_mono q₄ (fun _ t₅ q₅ => wpAny_pure (wpAny_pure ⟨rfl, q₅⟩)) fun _ _ f => f.elim)) fun _ _ f => f.elim))
end
theorem sub_nil {cells : List (Str × Addr)} : ∀ x c, ([] : List (Str × Addr)).lookup x = some c → cells.lookup x = some c := fun _ _ h => by cases h
theorem sub_cons {cells r : List (Str × Addr)} {k : Str} {a : Addr} (h1 : cells.lookup k = some a) (h2 : ∀ x c, r.lookup x = some c → cells.lookup x = some c) :
    ∀ x c, ((k, a) :: r).lookup x = some c → cells.lookup x = some c := fun x c h => by
  rw [List.lookup_cons] at h
  cases e : x == k with
  | true =>
    rw [e] at h
    have : x = k := by simpa using e
    subst this
    cases h
    exact h1
  | false =>
    rw [e] at h
    exact h2 x c h
theorem relabel_free {env : Env} : ∀ {names : List (Str × NameKind)} {x : Str}, (∀ y ∈ names, y.2 ≠ .cell) →
    ((names.map fun (n, k) => if (k == NameKind.free && env.scope.kind == .function && env.kindOf n == some .cell) then (n, NameKind.cell) else (n, k)).lookup x = some .cell ∨
     (names.map fun (n, k) => if (k == NameKind.free && env.scope.kind == .function && env.kindOf n == some .cell) then (n, NameKind.cell) else (n, k)).lookup x = some .free) → (x, NameKind.free) ∈ names
  | [], x, _, h => by simp at h
  | (n, k) :: r, x, hc, h => by
    have ih := @relabel_free env r x (fun y hy => hc y (List.mem_cons_of_mem _ hy))
    rw [List.map_cons] at h
    dsimp only at h
    by_cases c : (k == NameKind.free && env.scope.kind == .function && env.kindOf n == some .cell) = true
    · have hk : k = .free := by
        have := (Bool.and_eq_true_iff.mp (Bool.and_eq_true_iff.mp c).1).1
        cases k <;> first | rfl | (exact absurd this (by decide))
      rw [if_pos c, List.lookup_cons] at h
      cases e : x == n with
      | true =>
        have : x = n := by simpa using e
        subst this; subst hk
        exact List.mem_cons_self
      | false =>
        rw [e] at h
        exact List.mem_cons_of_mem _ (ih h)
    · rw [if_neg c, List.lookup_cons] at h
      cases e : x == n with
      | true =>
        have : x = n := by simpa using e
        subst this
        rw [e] at h
        rcases h with h | h
        · exact absurd (Option.some.inj h) (hc (x, k) List.mem_cons_self)
        · have := Option.some.inj h
          subst this; exact List.mem_cons_self
      | false =>
        rw [e] at h
        exact List.mem_cons_of_mem _ (ih h)
theorem free_ok {names : List (Str × NameKind)} {cl : List (Str × Addr)} (h : names.all (fun y => !(y.2 == NameKind.free) || (cl.lookup y.1).isSome) = true) : ∀ y ∈ names, y.2 = .free → ∃ c, cl.lookup y.1 = some c := fun y hy e => by
  have q := List.all_eq_true.mp h y hy
  rw [e] at q
  exact Option.isSome_iff_exists.mp (by simpa using q)
theorem cap_nil {α : Type} {F : α → Prop} : ∀ p ∈ ([] : List α), F p := fun _ h => (nomatch h)
theorem cap_cons {α : Type} {F : α → Prop} {p : α} {l : List α} (h : F p) (r : ∀ q ∈ l, F q) : ∀ q ∈ p :: l, F q := fun q hq => by
  rcases List.mem_cons.mp hq with e | e
  · rw [e]; exact h
  · exact r q e
def cxComp (X : Cx) (scope : Scope) (cl : List (Str × Addr)) (N' : List Str) (C : Addr) (s : Shared) (H : Hp) (fp : List Addr) : Cx where
  prog := X.prog
  w := X.w
  K := X.K
  mg := X.mg
  base := X.base
  A := X.A
  N := N'
  s₀ := s
  H₀ := H
  env := compEnvC scope cl C X.env
  outer := X.stack
  stack := X.stack
  ex := fp
  fn := fun _ => false
  calm := X.calm
  pn := []
  xe := fun _ _ => False
def PTs (X : Cx) (ifs : List Expr) (t : TT) : Prop :=
  ∀ (pins : List (Addr × Obj)) (s : Shared) (σ : St) (H : Hp) (Q : Bool → Hp → Prop), Inv X pins σ H s → t σ H Q →
    wpAny (model X.prog X.w) X.A (forIn ifs true fun c r => if r = true then do let ok ← isTrue c X.env (eval c X.env); pure (ForInStep.yield ok) else pure (ForInStep.yield r)) (TP X pins σ Q) X.xe s
def tYes : TT := fun _ H Q => Q true H
theorem pts_nil {X : Cx} : PTs X [] tYes := fun _ _ _ H _ I h => wpAny_tests_nil ⟨H, I, h⟩
theorem pts_one {X : Cx} {c : Expr} {t : TT} (h : PT X c t) : PTs X [c] t := fun pins s σ H Q I q => wpAny_tests_one (h pins s σ H Q I q)
def compSt (cap : List (Str × Nat)) (k : Nat) (σ : St) : St := cap.map (fun p => (σ[p.2]?).join) ++ List.replicate k none
def CompGo (J : It) (g : TG) (tc : TT) (te : TE) (σ' : St) (Q : VK) (H1 : Hp) : Prop :=
  ∃ W : Nat → Nat → List V → Hp → Prop, (∃ m, W 0 m [] H1) ∧ ∀ i m ys H, W i m ys H →
    (J.stop i H ∧ ∀ D, H D = none → Q (.ref D) (upd H D (.lst ys))) ∨
    (J.go i H ∧ ys.length < sizeLine ∧ ∃ N : List V → Hp → Prop, (∀ ys' H', N ys' H' → ∃ m', m' < m ∧ W (i + 1) m' ys' H') ∧
      ∀ x H', J.yld i H x H' → g x σ' H' fun σ2 H2 => tc σ2 H2 fun b H3 => if b = true then te σ2 H3 fun y H4 => N (ys ++ [y]) H4 else N ys H3)
def tComp (cap : List (Str × Nat)) (k : Nat) (wi : TI) (g : TG) (tc : TT) (te : TE) : TE := fun σ H Q => wi σ H fun J H1 => CompGo J g tc te (compSt cap k σ) Q H1
def Leaves (n : Nat) (g : TG) : Prop := ∀ x σ H Q, g x σ H Q → g x σ H fun σ2 H2 => (σ2.length = σ.length ∧ ∀ j, j < n → σ2[j]? = σ[j]?) ∧ Q σ2 H2
theorem leaves_name {n i : Nat} (h : n ≤ i) : Leaves n (gName i) := fun x σ H Q q => ⟨⟨by simp, fun j hj => by rw [List.getElem?_set_ne (by omega)]⟩, q⟩
abbrev lstO (us : List Value) : Obj := { cls := .type "list", data := .seq us.toArray us.length }

structure Fin (X : Cx) (pins : List (Addr × Obj)) (H : Hp) (s : Shared) (C : Addr) : Prop where
  none : H C = Option.none
  loc : C ≠ X.env.locals
  sz : X.s₀.heap.objs.size ≤ C
  cel : ∀ x c, X.env.cells.lookup x = some c → c ≠ C
  pin : ∀ p ∈ X.pn ++ pins, p.1 ≠ C
  ns : ∃ m, s.heap.Ns C m
theorem Fin.go {X : Cx} {pins : List (Addr × Obj)} {σ : St} {H : Hp} {s : Shared} {C : Addr} (f : Fin X pins H s C) (I : Inv X pins σ H s) {h' : Heap} (sb : Heap.SameBut C s.heap h') : Inv X pins σ H { s with heap := h' } :=
  I.turned (t' := s.toks) (it := C) (fun b o hb e => (sb.2 b hb).trans e) f.none f.loc (.inr f.sz) f.cel f.pin
theorem comp_core {X : Cx} {elt iter tg : Expr} {ifs : List Expr} {scope : Scope} {pos pos' : Pos} {cl : List (Str × Addr)} {cap : List (Str × Nat)} {tgs : List Str} {wi : TI} {g : TG} {tc : TT} {te : TE}
    (hc : X.calm = true) (hclos : closureFor scope X.env = pure cl) (hkind : scope.kind = .function)
    (hnames : ∀ x ∈ scope.names, x.2 = .local → scope.names.lookup x.1 = some .local) (hcell : ∀ y ∈ scope.names, y.2 ≠ .cell)
    (hfree : ∀ y ∈ scope.names, y.2 = .free → ∃ c, cl.lookup y.1 = some c)
    (hsub : ∀ x c, cl.lookup x = some c → X.env.cells.lookup x = some c)
    (hcap : ∀ p ∈ cap, X.N[p.2]? = some p.1 ∧ (X.env.kindOf p.1 = some .cell ∨ X.env.kindOf p.1 = some .free) ∧ ((relabel scope X.env).names.lookup p.1 = some .cell ∨ (relabel scope X.env).names.lookup p.1 = some .free) ∧ ∃ c, cl.lookup p.1 = some c)
    (hl : Leaves cap.length g) (hi : PI X tg iter wi)
    (hb : ∀ C s H fp, PG (cxComp X scope cl (cap.map (·.1) ++ tgs) C s H fp) tg g ∧ PTs (cxComp X scope cl (cap.map (·.1) ++ tgs) C s H fp) ifs tc ∧ PE (cxComp X scope cl (cap.map (·.1) ++ tgs) C s H fp) elt te)
    (hs : ∀ x, foldedSetIterable iter X.env x = pure x)
    {pins : List (Addr × Obj)} {s : Shared} {σ : St} {H : Hp} {Q : VK} {Qp : Value → Shared → Prop} {use : Option (Value → Sem Unit)} (I : Inv X pins σ H s) (h : tComp cap tgs.length wi g tc te σ H Q)
    (fin : ∀ D C H' s', Inv X pins σ H' s' → Fin X pins H' s' C → Q (.ref D) H' → compPost (model X.prog X.w) X.A X.xe use Qp (.ref D) C (.ok .next) s') :
    wpAny (model X.prog X.w) X.A (comprehension (.ListComp elt [⟨tg, iter, ifs, 0⟩] scope pos) scope X.env pos' (newList []) false (eval iter X.env) use) Qp X.xe s := by
  refine wpAny_comprehension_free (g := ⟨tg, iter, ifs, 0⟩) (gs := []) rfl hs hclos hkind hnames ?_
  refine thn (hi pins s σ H _ I h) fun v s1 h1 => thn h1 fun itv s2 h2 => ?_
  obtain ⟨it, fp, tn, J, H2, e, I2, T, st2, f2, W, ⟨m0, w0⟩, turn⟩ := h2
  subst e
  refine wpAny_newObj_type (wpAny_newFunctionEnv hcell (fun y hy => (by simp at hy)) (fun h₁ hns₁ hsb₁ => ?_) hkind)
  dsimp only at hns₁ hsb₁ ⊢
  generalize hH2 : s2.heap.push { cls := .type "list", dict := none, data := .seq ([] : List Value).toArray } = HH at hns₁ hsb₁ ⊢
  have hC : HH.objs.size = s2.heap.objs.size + 1 := by rw [← hH2, Heap.size_push]
  have hDC : s2.heap.objs.size ≠ HH.objs.size := by rw [hC]; exact Nat.ne_of_lt (Nat.lt_succ_self _)
  have below : ∀ b, b < s2.heap.objs.size → b ≠ HH.objs.size ∧ b ≠ s2.heap.objs.size := fun b hb => ⟨by rw [hC]; exact Nat.ne_of_lt (Nat.lt_succ_of_lt hb), Nat.ne_of_lt hb⟩
  have old : ∀ b o, s2.heap.get? b = some o → h₁.get? b = some o := fun b o e => hsb₁.extBut b o (below b (Heap.lt_size e)).1 (Heap.get?_push_of_some _ (hH2 ▸ Heap.get?_push_of_some _ e))
  have hacc : h₁.get? s2.heap.objs.size = some (lstO []) := hsb₁.extBut _ _ hDC (Heap.get?_push_of_some _ (hH2 ▸ Heap.get?_push_size _ rfl))
  have fpold : ∀ b ∈ fp, b < s2.heap.objs.size := fun b hb => let ⟨o, e, _⟩ := T.obj _ _ st2 b hb; Heap.lt_size e
  have celo : ∀ x c, cl.lookup x = some c → c < s2.heap.objs.size := fun x c e => let ⟨v, q⟩ := I2.cell x c (hsub x c e); q.lt
  have frold : ∀ b ∈ frs X.stack, b < s2.heap.objs.size := fun b hb => by
    obtain ⟨_, o, ho, _⟩ := I2.stack.mem hb
    exact Heap.lt_size ho
  generalize hX : cxComp X scope cl (cap.map (·.1) ++ tgs) HH.objs.size s2 H2 fp = X'
  have ok' : X'.Ok := by
    subst hX
    refine { mod := I2.ok.mod, kind := hkind, glob := I2.ok.glob, blt := I2.ok.blt, above := ?_, inj := fun x y c a b => I2.ok.inj x y c (hsub x c a) (hsub y c b), has := ?_, cab := fun x c h => (nomatch h), hd := I2.ok.hd, frames := I2.ok.frames, stk := .inl rfl, exf := ?_, bs := I2.bs, bsz := Nat.le_trans I2.ok.bsz I2.sz, noex := ?_, exfs := ?_, funs := I2.stack, frf := I2.stkFree }
    · show s2.heap.objs.size ≤ HH.objs.size
      rw [hC]; exact Nat.le_succ _
    · intro x hx
      exact hfree (x, .free) (relabel_free hcell hx) rfl
    · intro b hb
      exact ⟨(below b (fpold b hb)).1, fun x c e => (f2 b hb).2.2.2.2.1 x c (hsub x c e)⟩
    · intro b o e hb
      rcases (f2 b hb).2.2.2.1 with z | z
      · exact I2.ok.noex b o e z
      · exact absurd (Nat.lt_of_lt_of_le (Heap.lt_size (I2.ok.bs b o e).1) z) (Nat.lt_irrefl _)
    · intro b hb hm
      rcases List.mem_cons.mp (I2.stkSub b hm) with z | z
      · exact (f2 b hb).2.1 z
      · exact (f2 b hb).2.2.1 z
  have Inv0 : Inv X' [(s2.heap.objs.size, lstO [])] (compSt cap tgs.length σ) H2 { s2 with heap := h₁, toks := s2.toks + ([] : List (Str × Value)).length } := by
    subst hX
    refine ⟨ok', rfl, I2.bare, Un.kept old, ⟨_, hns₁, ?_⟩, fun x c e => ?_, I2.hok.fresh (by rw [hC]; exact Nat.le_succ _), fun x c e => I2.freeC x c (hsub x c e), fun p hp => ?_, I2.hok.kept old, ?_⟩
    · intro j y v e1 e2 e3
      have e1' : (cap.map (·.1) ++ tgs)[j]? = some y := e1
      by_cases hj : j < cap.length
      · unfold compSt at e2
        rw [List.getElem?_append_left (by simpa using hj), List.getElem?_map] at e2
        rw [List.getElem?_append_left (by simpa using hj), List.getElem?_map] at e1'
        rw [List.getElem?_eq_getElem hj] at e1' e2
        have ey : cap[j].1 = y := by simpa using e1'
        have ev : (σ[cap[j].2]?).join = some v := by simpa using e2
        obtain ⟨c1, c2, c3, c, c4⟩ := hcap cap[j] (List.getElem_mem hj)
        have ev' : σ[cap[j].2]? = some (some v) := by
          cases q : σ[cap[j].2]? with
          | none => rw [q] at ev; cases ev
          | some z => rw [q] at ev; exact congrArg some ev
        rw [ey] at c1 c2 c3 c4
        obtain ⟨m, hn, hl'⟩ := I2.loc
        have vis : Vis X.env.scope y := by
          rcases c2 with c2 | c2
          · exact .inr (.inl c2)
          · exact .inr (.inr c2)
        obtain ⟨u, ru, lu⟩ := hl' _ y v c1 ev' vis
        refine ⟨u, ru, .inr ⟨c3, c, c4, ?_⟩⟩
        rcases lu with ⟨k, _⟩ | ⟨_, c', e', q⟩
        · rcases c2 with c2 | c2 <;> (rw [k] at c2; cases c2)
        · rw [hsub y c c4] at e'
          cases e'
          obtain ⟨o, ho, hd⟩ := q
          exact ⟨o, old _ _ ho, hd⟩
      · unfold compSt at e2
        rw [List.getElem?_append_right (by simpa using hj), List.getElem?_replicate] at e2
        split at e2 <;> cases e2
    · obtain ⟨v, o, ho, hd⟩ := I2.cell x c (hsub x c e)
      exact ⟨v, o, old _ _ ho, hd⟩
    · have hp' : p ∈ ([(s2.heap.objs.size, lstO [])] : List (Addr × Obj)) := hp
      obtain rfl := List.mem_singleton.mp hp'
      refine ⟨hacc, I2.hok.fresh (Nat.le_refl _), hDC, fun z => Nat.lt_irrefl _ (frold _ z), fun v z => ?_⟩
      have z' : Data.seq _ _ = Data.cell v := z
      cases z'
    · show (compSt cap tgs.length σ).length = (cap.map (·.1) ++ tgs).length
      unfold compSt
      simp
  have fpX : ∀ {us : List Value} {H' : Hp}, (∀ b ∈ fp, H' b = none) → ∀ b ∈ fp, FpOk X' [(s2.heap.objs.size, lstO us)] H' b := by
    subst hX
    intro us H' hn b hb
    refine ⟨hn b hb, (below b (fpold b hb)).1, fun z => ok'.exfs b hb z, .inl hb, fun x c e => (f2 b hb).2.2.2.2.1 x c (hsub x c e), fun p hp => ?_⟩
    have hp' : p ∈ ([(s2.heap.objs.size, lstO us)] : List (Addr × Obj)) := hp
    obtain rfl := List.mem_singleton.mp hp'
    exact Ne.symm (below b (fpold b hb)).2
  have eP : X'.prog = X.prog := by subst hX; rfl
  have eW : X'.w = X.w := by subst hX; rfl
  have eK : X'.K = X.K := by subst hX; rfl
  have eA : X'.A = X.A := by subst hX; rfl
  have eE : X'.env = compEnvC scope cl HH.objs.size X.env := by subst hX; rfl
  have eF : X'.fs = frs X.stack := by subst hX; rfl
  have eX : X'.ex = fp := by subst hX; rfl
  have eH : X'.H₀ = H2 := by subst hX; rfl
  have eS : X'.s₀ = s2 := by subst hX; rfl
  have ec : X'.calm = true := by subst hX; exact hc
  have epn : X'.pn = [] := by subst hX; rfl
  have exe : X'.xe = fun _ _ => False := by subst hX; rfl
  obtain ⟨hg, ht, he⟩ : PG X' tg g ∧ PTs X' ifs tc ∧ PE X' elt te := by subst hX; exact hb _ _ _ _
  have loop : codeAny (model X.prog X.w) X.A (.compLoop (.ListComp elt [⟨tg, iter, ifs, 0⟩] scope pos) 0 (.ref it) (.ref s2.heap.objs.size) (compEnvC scope cl HH.objs.size X.env))
      (compPost (model X.prog X.w) X.A X.xe use Qp (.ref s2.heap.objs.size) HH.objs.size) { s2 with heap := h₁, toks := s2.toks + ([] : List (Str × Value)).length } := by
    refine compLoop_any (fun n s' => ∃ i ys us H', Inv X' [(s2.heap.objs.size, lstO us)] (compSt cap tgs.length σ) H' s' ∧ Vals ys us ∧ ys.length ≤ sizeLine ∧ tn i s'.heap ∧ (∀ b ∈ fp, H' b = none) ∧ W i n ys H') ?_ m0
      ⟨0, [], [], H2, Inv0, .nil, Nat.zero_le _, T.keep _ _ _ st2 fun b _ o e => old b o e, fun b hb => (f2 b hb).1, w0⟩
    rintro n s3 ⟨i, ys, us, H3, I3, rv, hz, st3, fr3, w3⟩
    rcases turn i n ys H3 w3 with ⟨stop, qn⟩ | ⟨go, hlen, N, hN, step⟩
    · have d := T.done X' eP eW eK ec i _ s3 _ H3 (fun _ _ => False) I3 (fpX fr3) st3 stop
      rw [eA] at d
      refine thn d fun r s4 ⟨hr, I4⟩ => ?_
      subst hr
      obtain ⟨m, hn, _⟩ := id I4.loc
      rw [eE] at hn
      have pD := I4.pin (s2.heap.objs.size, lstO us) (by rw [epn]; simp)
      have fC : H3 HH.objs.size = none := by have := I4.free; rw [eE] at this; exact this
      have un := I4.base
      rw [eF, eX, eH, eS] at un
      have nD : ∀ b o, s2.heap.get? b = some o → b ≠ s2.heap.objs.size := fun b o e => (below b (Heap.lt_size e)).2
      have fD2 : H2 s2.heap.objs.size = none := I2.hok.fresh (Nat.le_refl _)
      have leC : s2.heap.objs.size ≤ HH.objs.size := by rw [hC]; exact Nat.le_succ _
      refine fin s2.heap.objs.size HH.objs.size (upd H3 s2.heap.objs.size (.lst ys)) s4 (I2.call' (ch := fp) ?_ ?_ ?_ I4.bare ?_)
        ⟨by rw [upd_ne (Ne.symm hDC)]; exact fC, Ne.symm (below _ I2.lt).1, Nat.le_trans I2.sz leC, fun x c e => ?_, fun p hp => (below _ (Heap.lt_size (I2.pin p hp).1)).1, ⟨m, hn⟩⟩ (qn _ pD.2.1)
      · have := I4.os; rw [eS] at this; exact this
      · refine ⟨un.keep, un.slot, fun b o e n hx => ?_, un.there, fun b xs q => ?_, fun b o u q => ?_, fun b ps q => ?_⟩
        · rw [upd_ne (nD b o e)]; exact un.free b o e n hx
        · rw [upd_ne (ne_of_none q fD2)]; exact un.tups b xs q
        · rw [upd_ne (ne_of_none q fD2)]; exact un.frzs b o u q
        · rw [upd_ne (ne_of_none q fD2)]; exact un.tbls b ps q
      · have hok := I4.hok
        rw [eP, eW] at hok
        intro b u e
        by_cases hb : b = s2.heap.objs.size
        · subst hb
          rw [upd_same] at e
          cases e
          exact ⟨hz, us, us.length, rv, pD.1⟩
        · rw [upd_ne hb] at e
          exact (hok b u e).stay (fun c v hcc q => q) (fun c q => by rw [upd_ne (ne_of_none q pD.2.1)]; exact q) fun c xs q => by rw [upd_ne (ne_of_none q pD.2.1)]; exact q
      · exact fun b hb => ⟨(f2 b hb).2.2.2.1, (f2 b hb).2.1, (f2 b hb).2.2.2.2.1, (f2 b hb).2.2.2.2.2⟩
      · obtain ⟨v, q⟩ := I2.cell x c e
        exact (below c q.lt).1
    · have d := T.item X' eP eW eK ec i _ s3 _ H3 (fun _ _ => False) I3 (fpX fr3) st3 go
      rw [eA] at d
      refine thn d fun r s4 ⟨u, hr, h4⟩ => ?_
      subst hr
      refine thn h4 fun _ s5 ⟨x, H5, I5, r5, y5, st5, fr5⟩ => ?_
      have I5' := I5.pinned (fpX fr5) (T.obj _ _ st5)
      have a6 := hg _ s5 _ H5 x u _ I5' r5 (hl x _ H5 _ (step x H5 y5))
      rw [eP, eW, eA, eE, exe] at a6
      refine thn a6 fun _ s6 ⟨σ6, H6, I6, ⟨kl, kj⟩, q6⟩ => ?_
      have a7 := ht _ s6 σ6 H6 _ I6 q6
      rw [eP, eW, eA, eE, exe] at a7
      refine thn a7 fun ok s7 ⟨H7, I7, q7⟩ => ?_
      have wk : ∀ {pl : List (Addr × Obj)} {H' : Hp} {s' : Shared}, Inv X' pl σ6 H' s' → Inv X' [] (compSt cap tgs.length σ) H' s' := fun {pl H' s'} I' =>
        (I'.weak kl.symm fun j v e => by
          by_cases hj : j < cap.length
          · rw [kj j hj]; exact e
          · unfold compSt at e
            rw [List.getElem?_append_right (by simpa using hj), List.getElem?_replicate] at e
            split at e <;> cases e).pins_of fun p hp => (nomatch hp)
      have keepI : ∀ {H' : Hp} {s' : Shared}, Inv X' ([(s2.heap.objs.size, lstO us)] ++ pinsAt fp s5.heap) σ6 H' s' → (∀ b ∈ fp, ∀ o, s5.heap.get? b = some o → s'.heap.get? b = some o ∧ H' b = none) := fun {H' s'} I' b hb o e => by
        have z := I'.pin (b, o) (by rw [epn]; exact List.mem_append_right _ (List.mem_append_right _ (mem_pinsAt hb e)))
        exact ⟨z.1, z.2.1⟩
      cases ok with
      | false =>
        have q7' : N ys H7 := q7
        obtain ⟨m', hm, w7⟩ := hN _ _ q7'
        have pD := I7.pin (s2.heap.objs.size, lstO us) (by rw [epn]; simp)
        refine ⟨m', hm, i + 1, ys, us, H7, ?_, rv, hz, T.keep _ _ _ st5 fun b hb o e => (keepI I7 b hb o e).1, fun b hb => ?_, w7⟩
        · exact (wk I7).pins_of fun p hp => by
            cases List.mem_singleton.mp hp
            exact pD
        · obtain ⟨o, e, _⟩ := T.obj _ _ st5 b hb
          exact (keepI I7 b hb o e).2
      | true =>
        have a8 := he _ s7 σ6 H7 _ I7 q7
        rw [eP, eW, eA, eE, exe] at a8
        refine thn a8 fun uy s8 ⟨y, H8, I8, ry, q8⟩ => ?_
        obtain ⟨m', hm, w8⟩ := hN _ _ q8
        have pD := I8.pin (s2.heap.objs.size, lstO us) (by rw [epn]; simp)
        refine append_at (hsz := by show us.toArray.size ≤ sizeLine; rw [List.size_toArray, ← rv.length]; exact hz) pD.1 fun h9 hs9 hD9 => ?_
        have fpD : ∀ b ∈ fp, b ≠ s2.heap.objs.size := fun b hb => (below b (fpold b hb)).2
        have I9 : Inv X' [] (compSt cap tgs.length σ) H8 { s8 with heap := h9 } := (wk I8).turned (t' := s8.toks) (it := s2.heap.objs.size) (fun b o hb e => (hs9.2 b hb).trans e) pD.2.1 pD.2.2.1 (.inr (by rw [eS]; exact Nat.le_refl _))
          (fun x c e z => by
            rw [eE] at e
            exact absurd (celo x c e) (by rw [z]; exact Nat.lt_irrefl _)) (fun p hp => by rw [epn] at hp; exact (nomatch hp))
        refine ⟨m', hm, i + 1, ys ++ [y], us ++ [uy], H8, ?_, rv.append (.cons ry .nil), by rw [List.length_append, List.length_singleton]; exact hlen, T.keep _ _ _ st5 fun b hb o e => (hs9.2 b (fpD b hb)).trans (keepI I8 b hb o e).1, fun b hb => ?_, w8⟩
        · refine I9.pins_of fun p hp => ?_
          cases List.mem_singleton.mp hp
          refine ⟨?_, pD.2.1, pD.2.2.1, pD.2.2.2.1, fun v z => ?_⟩
          · show h9.get? _ = some (lstO (us ++ [uy]))
            rw [hD9]
            show some ({ cls := .type "list", data := .seq (us.toArray.push uy) (us.length + 1) } : Obj) = some { cls := .type "list", data := .seq (us ++ [uy]).toArray (us ++ [uy]).length }
            rw [List.push_toArray, List.length_append, List.length_singleton]
          · have z' : Data.seq _ _ = Data.cell v := z
            cases z'
        · obtain ⟨o, e, _⟩ := T.obj _ _ st5 b hb
          exact (keepI I8 b hb o e).2
  exact codeAny_compStart_list loop (T.self _ 0 _ _ _ (T.keep _ _ _ st2 fun b _ o e => old b o e) loop)
theorem pe_listcomp {X : Cx} {elt iter tg : Expr} {ifs : List Expr} {scope : Scope} {pos : Pos} {cl : List (Str × Addr)} {cap : List (Str × Nat)} {tgs : List Str} {wi : TI} {g : TG} {tc : TT} {te : TE}
    (hc : X.calm = true) (hclos : closureFor scope X.env = pure cl) (hkind : scope.kind = .function)
    (hnames : ∀ x ∈ scope.names, x.2 = .local → scope.names.lookup x.1 = some .local) (hcell : ∀ y ∈ scope.names, y.2 ≠ .cell)
    (hfree : ∀ y ∈ scope.names, y.2 = .free → ∃ c, cl.lookup y.1 = some c)
    (hsub : ∀ x c, cl.lookup x = some c → X.env.cells.lookup x = some c)
    (hcap : ∀ p ∈ cap, X.N[p.2]? = some p.1 ∧ (X.env.kindOf p.1 = some .cell ∨ X.env.kindOf p.1 = some .free) ∧ ((relabel scope X.env).names.lookup p.1 = some .cell ∨ (relabel scope X.env).names.lookup p.1 = some .free) ∧ ∃ c, cl.lookup p.1 = some c)
    (hl : Leaves cap.length g) (hi : PI X tg iter wi)
    (hb : ∀ C s H fp, PG (cxComp X scope cl (cap.map (·.1) ++ tgs) C s H fp) tg g ∧ PTs (cxComp X scope cl (cap.map (·.1) ++ tgs) C s H fp) ifs tc ∧ PE (cxComp X scope cl (cap.map (·.1) ++ tgs) C s H fp) elt te)
    (hs : ∀ x, foldedSetIterable iter X.env x = pure x := by intro _; rfl) :
    PE X (.ListComp elt [⟨tg, iter, ifs, 0⟩] scope pos) (tComp cap tgs.length wi g tc te) := by
  intro pins s σ H Q I h
  rw [eval_ListComp]
  refine comp_core hc hclos hkind hnames hcell hfree hsub hcap hl hi hb hs I h fun D C H' s' I' f q => ?_
  obtain ⟨m, hn⟩ := f.ns
  exact ⟨m, hn, fun h' sb => ⟨.ref D, H', f.go I' sb, rfl, q⟩⟩
theorem ps_setcomp {X : Cx} {elt iter tg : Expr} {ifs : List Expr} {scope : Scope} {pos py spos : Pos} {y : Str} {i : Nat} {cl : List (Str × Addr)} {cap : List (Str × Nat)} {tgs : List Str} {wi : TI} {g : TG} {tc : TT} {te : TE}
    (hN : X.N.Nodup) (hiy : X.N[i]? = some y) (hy : Loc X.env.scope y)
    (hc : X.calm = true) (hclos : closureFor scope X.env = pure cl) (hkind : scope.kind = .function)
    (hnames : ∀ x ∈ scope.names, x.2 = .local → scope.names.lookup x.1 = some .local) (hcell : ∀ y ∈ scope.names, y.2 ≠ .cell)
    (hfree : ∀ y ∈ scope.names, y.2 = .free → ∃ c, cl.lookup y.1 = some c)
    (hsub : ∀ x c, cl.lookup x = some c → X.env.cells.lookup x = some c)
    (hcap : ∀ p ∈ cap, X.N[p.2]? = some p.1 ∧ (X.env.kindOf p.1 = some .cell ∨ X.env.kindOf p.1 = some .free) ∧ ((relabel scope X.env).names.lookup p.1 = some .cell ∨ (relabel scope X.env).names.lookup p.1 = some .free) ∧ ∃ c, cl.lookup p.1 = some c)
    (hl : Leaves cap.length g) (hi : PI X tg iter wi)
    (hb : ∀ C s H fp, PG (cxComp X scope cl (cap.map (·.1) ++ tgs) C s H fp) tg g ∧ PTs (cxComp X scope cl (cap.map (·.1) ++ tgs) C s H fp) ifs tc ∧ PE (cxComp X scope cl (cap.map (·.1) ++ tgs) C s H fp) elt te)
    (hs : ∀ x, foldedSetIterable iter X.env x = pure x := by intro _; rfl)
    (hsw : swapsWith (.ListComp elt [⟨tg, iter, ifs, 0⟩] scope pos) (some (.Name y py)) spos.line X.env = pure true := by rfl)
    (hf : X.fn y = true ∨ X.env.scope.names.lookup y = some .local := by first | exact .inl rfl | exact .inr rfl | assumption) :
    PS X (.Assign [.Name y py] (.ListComp elt [⟨tg, iter, ifs, 0⟩] scope pos) spos) (tAsg (tComp cap tgs.length wi g tc te) (gName i)) := by
  intro pins s σ H D I h
  rw [exec_Assign_Name_used _ _ _ _ hsw]; refine wpAny_bind (wpAny_standAt (wpAny_bind ?_))
  show wpAny _ X.A (do let _ ← comprehension (.ListComp elt [⟨tg, iter, ifs, 0⟩] scope pos) scope X.env _ (newList []) false (eval iter X.env) (some (assign (.Name y py) X.env))) _ _ s
  refine wpAny_bind (wpAny_mono (comp_core (use := some (assign (.Name y py) X.env)) (Qp := fun _ s' => SP X pins D .next s') hc hclos hkind hnames hcell hfree hsub hcap hl hi hb hs I h fun D' C H' s' I' f q => ?_) (fun _ s' hq => wpAny_pure (wpAny_pure hq)) fun _ _ e => e)
  show wpAny _ X.A (assign (.Name y py) X.env (.ref D')) _ _ _
  refine wpAny_assign_Name (store_ok2 I' hN hiy hy (v := .ref D') rfl (fun s'' I'' ⟨a, sa, ha⟩ => ?_) hf)
  obtain ⟨m, hn⟩ := f.ns
  have hCa : C ≠ a := by
    rcases ha with z | z
    · rw [z]; exact f.loc
    · exact Ne.symm (f.cel _ _ z)
  have f'' : Fin X pins H' s'' C := ⟨f.none, f.loc, f.sz, f.cel, f.pin, ⟨m, hn.sameBut sa hCa⟩⟩
  exact ⟨m, hn.sameBut sa hCa, fun h' sb => ⟨_, H', f''.go I'' sb, q⟩⟩
theorem comp_list {K : PySem.W.Frag} {a : Addr} {xs : List V} {g : TG} {tc : TT} {te : TE} {σ' : St} {H : Hp} {Q : VK} (Pv : Nat → List V → Hp → Prop) (h0 : Pv 0 [] H) (hl : ∀ i ys H, i ≤ xs.length → Pv i ys H → SqL K H a xs) (hz : ∀ i ys H, i < xs.length → Pv i ys H → ys.length < sizeLine)
    (hs : ∀ i x ys H, xs[i]? = some x → Pv i ys H → g x σ' H fun σ2 H2 => tc σ2 H2 fun b H3 => if b = true then te σ2 H3 fun y H4 => Pv (i + 1) (ys ++ [y]) H4 else Pv (i + 1) ys H3) (hd : ∀ ys H, Pv xs.length ys H → ∀ D, H D = none → Q (.ref D) (upd H D (.lst ys))) :
    CompGo (Itl K a) g tc te σ' Q H := by
  refine ⟨fun i m ys H => m = xs.length - i ∧ i ≤ xs.length ∧ Pv i ys H, ⟨xs.length, by simp, Nat.zero_le _, h0⟩, ?_⟩
  rintro i m ys H ⟨rfl, hi, p⟩
  have q := hl i ys H hi p
  by_cases hlt : i < xs.length
  · refine .inr ⟨⟨xs, xs[i], q, by simp [hlt]⟩, hz i ys H hlt p, Pv (i + 1), fun ys' H' p' => ⟨xs.length - (i + 1), by omega, rfl, hlt, p'⟩, fun x H' y => ?_⟩
    obtain ⟨e, y⟩ := y
    subst e
    exact hs i x ys _ (y xs q) p
  · have e : i = xs.length := by omega
    subst e
    exact .inl ⟨⟨xs, q, Nat.le_refl _⟩, hd ys H p⟩
theorem comp_range {lo : Int} {n : Nat} {g : TG} {tc : TT} {te : TE} {σ' : St} {H : Hp} {Q : VK} (Pv : Nat → List V → Hp → Prop) (h0 : Pv 0 [] H) (hz : ∀ i ys H, i < n → Pv i ys H → ys.length < sizeLine)
    (hs : ∀ i ys H, i < n → Pv i ys H → g (.int (lo + i)) σ' H fun σ2 H2 => tc σ2 H2 fun b H3 => if b = true then te σ2 H3 fun y H4 => Pv (i + 1) (ys ++ [y]) H4 else Pv (i + 1) ys H3) (hd : ∀ ys H, Pv n ys H → ∀ D, H D = none → Q (.ref D) (upd H D (.lst ys))) :
    CompGo (Itr lo n) g tc te σ' Q H := by
  refine ⟨fun i m ys H => m = n - i ∧ i ≤ n ∧ Pv i ys H, ⟨n, by simp, Nat.zero_le _, h0⟩, ?_⟩
  rintro i m ys H ⟨rfl, hi, p⟩
  by_cases hlt : i < n
  · refine .inr ⟨hlt, hz i ys H hlt p, Pv (i + 1), fun ys' H' p' => ⟨n - (i + 1), by omega, rfl, hlt, p'⟩, fun x H' y => ?_⟩
    obtain ⟨e, y⟩ := y
    subst e y
    exact hs i ys _ hlt p
  · have e : i = n := by omega
    subst e
    exact .inl ⟨Nat.le_refl _, hd ys H p⟩
end L2
set_option Elab.async false
set_option linter.all false
set_option maxRecDepth 100000
set_option maxHeartbeats 5000000
namespace L2
open PySem PySem.Spec PyProof.Rows
section
variable {X : Cx}
theorem op_mulB : OpR X (binaryOp .Mult) (rI IntMulOk fun i j => .int (i * j)) := opI fun _ _ _ _ _ _ _ hc q => mul_int q hc
def CDivB (i j : Int) : Prop := 0 < j ∧ j.natAbs.log2 < 9000
theorem op_fdivB : OpR X (binaryOp .FloorDiv) (rI CDivB fun i j => .int (i / j)) := opI fun i j _ _ _ _ _ hc q => by
  have e : i / j = i.fdiv j := (Int.fdiv_eq_ediv_of_nonneg i (Int.le_of_lt hc.1)).symm
  rw [e] at q
  exact floordiv_int (Int.ne_of_gt hc.1) q (.inl (PyProof.noPylong_of_log2 hc.2))
theorem call_isinst : CallR X (.builtin "isinstance") (fun xs H Q => ∃ x T t b, xs = [x, .ty T] ∧ TyOf X.K H x t ∧ PySem.W.kitOne X.K t (.type T) = some b ∧ Q (.bl b) H) := by
  intro pins s σ H xs us Q I r h
  obtain ⟨x, T, t, b, rfl, ty, e, q⟩ := h
  obtain ⟨u, w', rfl, rx, rw'⟩ := vals2 r
  have ew : w' = Value.type T := rw'
  subst ew
  exact isinst_ok I rx ty e fun tk => ⟨.bl b, H, I.tok tk, rfl, q⟩
end
theorem bi_isinstance : bootBuiltins "isinstance" = some (.builtin "isinstance") := by decide +kernel
theorem bi_len : bootBuiltins "len" = some (.builtin "len") := by decide +kernel
theorem bi_sum : bootBuiltins "sum" = some (.builtin "sum") := by decide +kernel
theorem bi_bool : bootBuiltins "bool" = some (.type "bool") := by decide +kernel
theorem bi_list : bootBuiltins "list" = some (.type "list") := by decide +kernel
def tMid (t u : TS) : TS := fun D σ H => ∃ M : St → Hp → Prop, t { D with nx := M } σ H ∧ ∀ σ' H', M σ' H' → u D σ' H'
theorem pss_mid {X : Cx} {st : Stmt} {rest : List Stmt} {t u : TS} (h1 : PS X st t) (h2 : PSs X rest u) : PSs X (st :: rest) (tMid t u) := by
  intro pins s σ H D I h
  obtain ⟨M, ht, hu⟩ := h
  refine wpAny_execs_cons (thn (h1 pins s σ H { D with nx := M } I ht) fun f s1 q => ?_)
  cases f with
  | next =>
    obtain ⟨σ', H', I', q⟩ := q
    exact h2 pins s1 σ' H' D I' (hu σ' H' q)
  | ret v => exact q
  | brk => exact q
  | cont => exact q
structure Df (P : Program) (w : World) (K : PySem.W.Frag) (mg : Str → Option Value) (base : Heap) (k : Nat) (x : Str) (ps : List Str) (sp : Sp) : Prop where
  ex : ∃ (f : Addr) (fd : FuncData), FnOk P w K mg base CX0 k f fd ps sp ∧ Binds K fd ps [] ∧ PySem.W.keepIn K (.ref f) = true ∧ mg x = some (.ref f)
theorem Df.mono {P : Program} {w : World} {K : PySem.W.Frag} {mg : Str → Option Value} {base : Heap} {j k : Nat} {x : Str} {ps : List Str} {sp : Sp} (D : Df P w K mg base j x ps sp) (h : j ≤ k) : Df P w K mg base k x ps sp :=
  let ⟨f, fd, F, r⟩ := D.ex; ⟨f, fd, F.mono h, r⟩
section
variable {X : Cx} {k : Nat} {x : Str} {ps : List Str} {sp : Sp} {e : Expr} {es : List Expr} {t : TA} {p pos : Pos}
theorem pe_def (D : Df X.prog X.w X.K X.mg X.base k x ps sp) (hr : Room k X.A) (hg : Gl X x) (ha : PA X (e :: es) t) (hdb : (x == ("__debug__" : Str)) = false := by decide)
    (he : starEach (e :: es) X.env = (false, eval e X.env) :: starEach es X.env := by rfl) (hpl : (backTo pos (starEach es X.env)).any (·.1) = false := by rfl) :
    PE X (.Call (.Name x p) (e :: es) [] pos) (tCall sp [] E0 t) := by
  obtain ⟨f, fd, F, hb, hk, hm⟩ := D.ex
  exact pe_call F hr hg hm hk hb .nil pass0 ha hdb he hpl
end
structure Dn (K : PySem.W.Frag) (mg : Str → Option Value) (x : Str) (st : Stmt) (ps : List Str) : Prop where
  ex : ∃ (f : Addr) (fd : FuncData), Fun K x x st f fd ∧ Binds K fd ps [] ∧ mg x = some (.ref f)
theorem Dn.ok {P : Program} {w : World} {K : PySem.W.Frag} {mg : Str → Option Value} {base : Heap} {x : Str} {st : Stmt} {N ps : List Str} {k : Nat} {sp : Sp} (D : Dn K mg x st ps) (S : FnScope N ps (defScope st)) (len : ∀ vs H Q E, sp vs H Q E → vs.length = ps.length)
    (hbody : ∀ (f : Addr) (cdv : Value) (A : Around) (outer : List Env) (s : Shared) (H : Hp) (vs : List V) (Q : VK) (E : XK), Room k (A.deeper (envOfC x (defScope st) s.heap.objs.size f cdv)) → sp vs H Q E →
      ∃ t, PSs (cxOf CX0 P w K mg base N x (defScope st) f cdv A outer s H E).nox (defBody st) t ∧ t { nx := fun _ H' => Q .non H', rt := Q } (start N vs) H) : Df P w K mg base (k + 1) x ps sp := by
  obtain ⟨f, fd, F, b, m⟩ := D.ex
  exact ⟨f, fd, F.ok S len (fun cdv A outer s H vs Q E hr h => hbody f cdv A outer s H vs Q E hr h), b, F.kp, m⟩
theorem kit_same {K : PySem.W.Frag} (T : String) : PySem.W.kitOne K (.type T) (.type T) = some true := if_pos (by simp)
theorem vint {a b : Int} (h : decide (V.int a = V.int b) = true) : a = b := by
  have := of_decide_eq_true h
  injection this
theorem nvint {a b : Int} (h : ¬ decide (V.int a = V.int b) = true) : ¬ a = b := fun e => h (by rw [e]; simp)
theorem vne {a b : Int} (h : (!decide (V.int a = V.int b)) = true) : ¬ a = b := fun e => by rw [e] at h; simp at h
theorem nvne {a b : Int} (h : ¬ (!decide (V.int a = V.int b)) = true) : a = b := by
  by_cases e : a = b
  · exact e
  · exact absurd (by simp [e]) h
theorem dec {p : Prop} [Decidable p] (h : decide p = true) : p := of_decide_eq_true h
theorem ndec {p : Prop} [Decidable p] (h : ¬ decide p = true) : ¬ p := fun e => h (decide_eq_true e)
theorem same_upd {H H' : Hp} {r : Addr} {o : HO} (h : Same H H') (n : H r = none) : Same H (upd H' r o) := fun b u q => by rw [upd_ne (ne_of_none q n)]; exact h b u q
theorem same_new {H H' : Hp} {r : Addr} {o : HO} (h : Same H H') (n : H' r = none) : Same H (upd H' r o) := same_upd h (h.free n)
theorem size1 {n : Nat} (h : n ≤ 20000) : n < sizeLine := Nat.lt_of_le_of_lt h (by decide)
theorem size2 {n : Nat} (h : n ≤ 20000) : n ≤ sizeLine := Nat.le_of_lt (size1 h)
theorem paired_get {α β : Type} {F : α → β → Prop} : ∀ {l₁ : List α} {l₂ : List β} {i : Nat} {a : α}, Paired F l₁ l₂ → l₁[i]? = some a → ∃ b, l₂[i]? = some b ∧ F a b
  | _, _, 0, _, .cons h _, e => by cases e; exact ⟨_, rfl, h⟩
  | _, _, i + 1, _, .cons _ t, e => paired_get (i := i) t (by rw [List.getElem?_cons_succ] at e; exact e)
theorem cut_map (ns : List Int) (lo hi : Option Int) : ∃ ms : List Int, cutV (ns.map V.int) lo hi = ms.map V.int ∧ ms.length ≤ ns.length := by
  refine ⟨(ns.drop (HT.sIx (ns.map V.int).length 0 lo)).take (HT.sIx (ns.map V.int).length (ns.map V.int).length hi - HT.sIx (ns.map V.int).length 0 lo), ?_, ?_⟩
  · unfold cutV; rw [List.map_take, List.map_drop]
  · rw [List.length_take, List.length_drop]; omega
theorem int_at {ms : List Int} {i : Nat} {x : V} (h : (ms.map V.int)[i]? = some x) : ∃ v, x = .int v ∧ ms[i]? = some v := by
  rw [List.getElem?_map] at h
  cases e : ms[i]? with
  | none => rw [e] at h; cases h
  | some v => rw [e] at h; cases h; exact ⟨v, rfl, rfl⟩
theorem atI_in {ns : List Int} {k : Int} (h0 : 0 ≤ k) (h : k < (ns.length : Int)) : ∃ v : Int, atI (ns.map V.int) k = some (.int v) ∧ ns[k.toNat]? = some v := by
  have hk : k.toNat < ns.length := (by omega)
  have ek : k = ((k.toNat : Nat) : Int) := by omega
  have q : atI (ns.map V.int) ((k.toNat : Nat) : Int) = some (.int ns[k.toNat]) := atI_nat (by rw [List.getElem?_map, List.getElem?_eq_getElem hk] <;> rfl)
  rw [← ek] at q
  exact ⟨ns[k.toNat], q, List.getElem?_eq_getElem hk⟩
theorem bits_le {a : Int} {m : Nat} (h : a.natAbs < 2 ^ m) : Builtin.Int.intBits a ≤ m := by
  unfold Builtin.Int.intBits
  split
  · exact Nat.zero_le _
  · rename_i hz
    have h0 : a.natAbs ≠ 0 := by
      intro z
      apply hz
      simpa using z
    have := (Nat.log2_lt h0).mpr h
    omega
theorem mul_ok {a b : Int} {m n : Nat} (ha : a.natAbs < 2 ^ m) (hb : b.natAbs < 2 ^ n) (h : m + n ≤ 134217728) : IntMulOk a b := IntMulOk.of_le (bits_le ha) (bits_le hb) h
theorem mul_small {a b : Int} (h1 : -1000000000 ≤ a) (h2 : a ≤ 1000000000) : IntMulOk a b := IntMulOk.of_left (intBits_le_64 (by omega) (by omega))
theorem div_small {i j : Int} (h0 : 0 < j) (h : j ≤ 1000000000) : CDivB i j := by
  refine ⟨h0, ?_⟩
  have hn : j.natAbs < 2 ^ 30 := by omega
  have := (Nat.log2_lt (show j.natAbs ≠ 0 by omega)).mpr hn
  omega
end L2
set_option Elab.async false
set_option linter.all false
set_option maxRecDepth 100000
set_option maxHeartbeats 5000000
namespace L2
open PySem PySem.Spec PyProof.Rows
section
variable {X : Cx} {pins : List (Addr × Obj)} {σ : St} {H : Hp} {s : Shared} {h' : Heap}
theorem Inv.turnedL {t' : Nat} {its : List Addr} (I : Inv X pins σ H s) (k : ∀ b o, b ∉ its → s.heap.get? b = some o → h'.get? b = some o) (hf : ∀ b ∈ its, FpOk X pins H b) : Inv X pins σ H { s with heap := h', toks := t' } := by
  have nit : ∀ b u, H b = some u → b ∉ its := fun b u e z => by rw [(hf b z).1] at e; cases e
  refine I.step (g' := s.gens) (d' := s.drawn) (ch := its) (fun b hb => ?_) (fun b o _ _ hc e _ => k b o hc e) (fun b o _ _ hc e _ => ⟨o.slots, k b o hc e⟩) (fun _ _ _ _ n => n)
    (fun b o hc e => ⟨o, k b o hc e⟩) (fun _ _ e => e) (fun _ _ _ e => e) (fun b ps e => ⟨#[], by rw [e]; simp⟩) (fun m hm => ?_) (fun b u e => ?_) I.bare
  · obtain ⟨_, f1, _, f3, f4, f5⟩ := hf b hb
    exact ⟨f3, f1, f4, f5⟩
  · obtain ⟨o, es, ep, ho, r⟩ := hm
    exact ⟨o, es, ep, k _ o (fun z => (hf _ z).2.1 rfl) ho, r⟩
  · refine (I.hok b u e).stay (fun c v hc q => k c v ?_ q) (fun _ q => q) fun _ _ q => q
    rcases hc with z | z
    · rw [z]; exact nit b u e
    · exact nit c _ z
theorem Inv.turnedT {t' : Nat} {its : List Addr} {xs : List V} {us : List Value} (I : Inv X pins σ H s) (k : ∀ b o, b ∉ its → s.heap.get? b = some o → h'.get? b = some o) (hf : ∀ b ∈ its, FpOk X pins H b) (hlt : ∀ b ∈ its, b < s.heap.objs.size)
    (ht : h'.get? s.heap.objs.size = some { cls := .type "tuple", data := .seq us.toArray }) (hz : xs.length ≤ sizeLine) (r : Vals xs us) :
    Inv X pins σ (upd H s.heap.objs.size (.tup xs)) { s with heap := h', toks := t' } ∧ ∀ b ∈ its, upd H s.heap.objs.size (.tup xs) b = none := by
  have nf : ∀ b ∈ its, upd H s.heap.objs.size (.tup xs) b = none := fun b hb => by rw [upd_ne (Nat.ne_of_lt (hlt b hb))]; exact (hf b hb).1
  refine ⟨?_, nf⟩
  have I1 : Inv X pins σ (upd H s.heap.objs.size (.tup xs)) { s with heap := s.heap.push { cls := .type "tuple", data := .seq us.toArray }, toks := s.toks } :=
    I.laid (t' := s.toks) (fun b u e => Heap.get?_push_of_some _ e) (Nat.le_refl _) ⟨hz, us, r, ⟨_, Heap.get?_push_size _ rfl, rfl, _, rfl⟩⟩
  have I2 := I1.turnedL (h' := h') (t' := t') (its := its) (fun b o hb e => ?_) (fun b hb => ⟨nf b hb, (hf b hb).2⟩)
  · exact I2
  · have e' : (s.heap.push { cls := .type "tuple", data := .seq us.toArray }).get? b = some o := e
    have hb' : b < s.heap.objs.size + 1 := by have := Heap.lt_size e'; rw [Heap.size_push] at this; exact this
    rcases Nat.lt_or_ge b s.heap.objs.size with z | z
    · cases q : s.heap.get? b with
      | none =>
        exact absurd e' (by
          intro e''
          have : (s.heap.push { cls := .type "tuple", data := .seq us.toArray }).get? b = s.heap.get? b := by
            first | exact Heap.get?_push_lt _ z | exact Heap.get?_push_of_lt _ z | (simp [Heap.get?, Heap.push, Array.getElem?_push, Nat.ne_of_lt z])
          rw [this, q] at e''; cases e'')
      | some o' =>
        have := Heap.get?_push_of_some { cls := .type "tuple", data := .seq us.toArray } q
        rw [e'] at this; cases this
        exact k b o hb q
    · have eb : b = s.heap.objs.size := Nat.le_antisymm (Nat.le_of_lt_succ hb') z
      subst eb
      rw [Heap.get?_push_size _ rfl] at e'
      rw [ht]; exact e'
end
section
variable {X : Cx}
end
def Itz (K : PySem.W.Frag) (a b : Addr) : It :=
  ⟨fun i H => ∃ xs ys x y, SqL K H a xs ∧ SqL K H b ys ∧ xs[i]? = some x ∧ ys[i]? = some y, fun i H v H' => ∃ p x y, v = .ref p ∧ H p = none ∧ (∀ xs, SqL K H a xs → xs[i]? = some x) ∧ (∀ ys, SqL K H b ys → ys[i]? = some y) ∧ H' = upd H p (.tup [x, y]),
   fun i H => ∃ xs ys, SqL K H a xs ∧ SqL K H b ys ∧ (xs.length ≤ i ∨ ys.length ≤ i)⟩
theorem turn_zip {P : Program} {w : World} {K : PySem.W.Frag} {elts : List Expr} {x1} {pos : Pos} (a b z TI TO i1 i2 : Addr) (D : ZipApart z TI TO i1 i2 a b) : Turn P w K (.Tuple elts x1 pos) (Itz K a b) [z, TI, TO, i1, i2] z
    (fun i h => IsZip h z TI TO .none ∧ IsPair h TI (.ref i1) (.ref i2) ∧ (∃ u v, IsPair h TO u v) ∧ h.IsListIter i1 a i ∧ h.IsListIter i2 b i) where
  mem := by simp
  obj := fun i h st c hc => by
    obtain ⟨hz, h1, ⟨u, v, h2⟩, ⟨o1, e1, c1, d1⟩, ⟨o2, e2, c2, d2⟩⟩ := st
    simp only [List.mem_cons, List.not_mem_nil, or_false] at hc
    rcases hc with rfl | rfl | rfl | rfl | rfl
    · exact ⟨_, hz, fun v q => by
        have q' : Data.fields _ = Data.cell v := q
        cases q'⟩
    · exact ⟨_, h1, fun v q => by
        have q' : Data.seq _ _ = Data.cell v := q
        cases q'⟩
    · exact ⟨_, h2, fun v q => by
        have q' : Data.seq _ _ = Data.cell v := q
        cases q'⟩
    · exact ⟨o1, e1, fun v q => by rw [d1] at q; cases q⟩
    · exact ⟨o2, e2, fun v q => by rw [d2] at q; cases q⟩
  keep := fun i h h' st k => by
    obtain ⟨hz, h1, ⟨u, v, h2⟩, s1, s2⟩ := st
    exact ⟨k z (by simp) _ hz, k TI (by simp) _ h1, ⟨u, v, k TO (by simp) _ h2⟩, s1.at fun o e => k i1 (by simp) o e, s2.at fun o e => k i2 (by simp) o e⟩
  item := by
    intro X hP hw hK hc i pins s σ H E I hf st hg
    subst hP hw hK
    obtain ⟨hz, h1, ⟨u0, v0, h2⟩, s1, s2⟩ := st
    obtain ⟨xs, ys, x, y, hq, hq', hx, hy⟩ := hg
    obtain ⟨its, rv, p, hzl⟩ := I.list hq
    obtain ⟨its', rv', p', hzl'⟩ := I.list hq'
    obtain ⟨u, hu, ru⟩ := rv.get hx
    obtain ⟨u', hu', ru'⟩ := rv'.get hy
    have ltz : z < s.heap.objs.size := Heap.lt_size hz
    have lt1 : TI < s.heap.objs.size := Heap.lt_size h1
    have lt2 : TO < s.heap.objs.size := Heap.lt_size h2
    have lti : i1 < s.heap.objs.size := by obtain ⟨o, e1, _⟩ := s1; exact Heap.lt_size e1
    have ltj : i2 < s.heap.objs.size := by obtain ⟨o, e1, _⟩ := s2; exact Heap.lt_size e1
    refine wpAny_pyNext_zip_item D hz h1 h2 s1 s2 p.isList p'.isList (x := u) (y := u') (by simpa using hu) (by simpa using hu') fun g1 a1 a2 a3 a4 a5 a6 hk => ?_
    refine ⟨_, rfl, wpAny_letOwnedTupleGo_zip a1 fun g2 he2 hs2 => ?_⟩
    replace hs2 : Heap.SameBut z g1 g2 := hs2
    have nm : ∀ b, b ∉ [z, TI, TO, i1, i2] → b ≠ z ∧ b ≠ TO ∧ b ≠ i1 ∧ b ≠ i2 := fun b hb => ⟨fun q => hb (by simp [q]), fun q => hb (by simp [q]), fun q => hb (by simp [q]), fun q => hb (by simp [q])⟩
    have IT := I.turnedT (t' := s.toks) (h' := g2) (its := [z, TI, TO, i1, i2]) (xs := [x, y]) (us := [u, u']) (fun b o hb q => hs2.extBut b o (nm b hb).1 (hk b o (nm b hb).1 (nm b hb).2.1 (nm b hb).2.2.1 (nm b hb).2.2.2 q)) hf
      (fun b hb => by
        simp only [List.mem_cons, List.not_mem_nil, or_false] at hb
        rcases hb with rfl | rfl | rfl | rfl | rfl <;> assumption)
      (hs2.extBut _ _ (Nat.ne_of_gt ltz) a5) (by show 2 ≤ sizeLine; decide) (.cons ru (.cons ru' .nil))
    exact ⟨.ref s.heap.objs.size, _, IT.1, rfl, ⟨_, x, y, rfl, I.hok.fresh (Nat.le_refl _), fun ys hy' => by rw [I.list_inj hy' hq]; exact hx, fun ys hy' => by rw [I.list_inj hy' hq']; exact hy, rfl⟩,
      ⟨he2, hs2.extBut _ _ D.TIz (hk _ _ D.TIz D.TITO D.TIi1 D.TIi2 h1), ⟨_, _, hs2.extBut _ _ D.TOz a2⟩, a3.extBut hs2.extBut D.i1z, a4.extBut hs2.extBut D.i2z⟩, IT.2⟩
  done := by
    intro X hP hw hK hc i pins s σ H E I hf st hg
    subst hP hw hK
    obtain ⟨hz, h1, ⟨u0, v0, h2⟩, s1, s2⟩ := st
    obtain ⟨xs, ys, hq, hq', hx⟩ := hg
    obtain ⟨its, rv, p, hzl⟩ := I.list hq
    obtain ⟨its', rv', p', hzl'⟩ := I.list hq'
    have hl := rv.length
    have hl' := rv'.length
    refine wpAny_pyNext_zip_end (I.ok.hd hc) D hz h1 h2 s1 s2 p.isList p'.isList (by rcases hx with q | q; exact .inl (by simp; omega); exact .inr (by simp; omega)) fun h' hk => ⟨rfl, I.turnedL (t' := s.toks) (its := [z, TI, TO, i1, i2]) (fun b o hb e => hk b o ?_ ?_ ?_ ?_ e) hf⟩
    · exact fun q => hb (by simp [q])
    · exact fun q => hb (by simp [q])
    · exact fun q => hb (by simp [q])
    · exact fun q => hb (by simp [q])
  self := fun A i s Q E st h => wpAny_pyIter_zip st.1 h
section
variable {X : Cx}
def iZip (K : PySem.W.Frag) (ta : TA) : TI := fun σ H R => ta σ H fun vs H1 => ∃ a b, vs = [.ref a, .ref b] ∧ (∃ xs, SqL K H1 a xs) ∧ (∃ ys, SqL K H1 b ys) ∧ R (Itz K a b) H1
theorem pi_zip {elts : List Expr} {x1} {pos' : Pos} {a b : Expr} {ta : TA} {p pos : Pos} (hg : Gl X "zip") (hm : X.mg "zip" = none) (ha : PA X [a, b] ta) (hs : starEach [a, b] X.env = [(false, eval a X.env), (false, eval b X.env)] := by rfl) (hs2 : starEach [b] X.env = [(false, eval b X.env)] := by rfl) :
    PI X (.Tuple elts x1 pos') (.Call (.Name "zip" p) [a, b] [] pos) (iZip X.K ta) := by
  intro pins s σ H R I h
  refine Call_ (ld_blt I hg hm boot_zip (PyProof.Rows.callWith_type1 (thn (ha pos pins s σ H _ I h) fun us s1 ⟨vs, H1, I1, r1, q1⟩ => ?_) (by rw [hs, hs2]) (by rw [hs2]; rfl)))
  obtain ⟨a, b, e, ⟨xs, hq⟩, ⟨ys, hq'⟩, q⟩ := q1
  subst e
  cases r1 with
  | cons r rr =>
    cases rr with
    | cons r' rr =>
      cases rr
      cases r
      cases r'
      obtain ⟨its, rv, p, hz⟩ := I1.list hq
      obtain ⟨its', rv', p', hz'⟩ := I1.list hq'
      have la : a < s1.heap.objs.size := by obtain ⟨o, e1, _⟩ := p.isList; exact Heap.lt_size e1
      have lb : b < s1.heap.objs.size := by obtain ⟨o, e1, _⟩ := p'.isList; exact Heap.lt_size e1
      refine call_zip_2 p.isList p'.isList fun h' hz hTI hTO hi1 hi2 hsz hk => ?_
      have I2 : Inv X pins σ H1 { s1 with heap := h' } := I1.kept (t' := s1.toks) hk
      refine wpAny_pyIter_zip hz ?_
      refine ⟨_, _, _, _, H1, rfl, I2, turn_zip a b _ _ _ _ _ (zipApart_new la lb), ⟨hz, hTI, ⟨_, _, hTO⟩, hi1, hi2⟩, fun c hc => ?_, q⟩
      simp only [List.mem_cons, List.not_mem_nil, or_false] at hc
      rcases hc with rfl | rfl | rfl | rfl | rfl <;> exact I1.fpOk (by omega) (I1.hok.fresh (by omega))
end
theorem comp_zip {K : PySem.W.Frag} {a b : Addr} {xs ys : List V} {g : TG} {tc : TT} {te : TE} {σ' : St} {H : Hp} {Q : VK} (hlen : xs.length = ys.length) (Pv : Nat → List V → Hp → Prop) (h0 : Pv 0 [] H) (hl : ∀ i rs H, i ≤ xs.length → Pv i rs H → SqL K H a xs ∧ SqL K H b ys) (hz : ∀ i rs H, i < xs.length → Pv i rs H → rs.length < sizeLine)
    (hs : ∀ i x y rs H p, xs[i]? = some x → ys[i]? = some y → Pv i rs H → H p = none → g (.ref p) σ' (upd H p (.tup [x, y])) fun σ2 H2 => tc σ2 H2 fun b H3 => if b = true then te σ2 H3 fun y H4 => Pv (i + 1) (rs ++ [y]) H4 else Pv (i + 1) rs H3) (hd : ∀ rs H, Pv xs.length rs H → ∀ D, H D = none → Q (.ref D) (upd H D (.lst rs))) :
    CompGo (Itz K a b) g tc te σ' Q H := by
  refine ⟨fun i m rs H => m = xs.length - i ∧ i ≤ xs.length ∧ Pv i rs H, ⟨xs.length, by simp, Nat.zero_le _, h0⟩, ?_⟩
  rintro i m rs H ⟨rfl, hi, p⟩
  have q := hl i rs H hi p
  by_cases hlt : i < xs.length
  · refine .inr ⟨⟨xs, ys, xs[i], ys[i], q.1, q.2, by simp [hlt], by simp⟩, hz i rs H hlt p, Pv (i + 1), fun ys' H' p' => ⟨xs.length - (i + 1), by omega, rfl, hlt, p'⟩, fun x H' y => ?_⟩
    obtain ⟨r, x, y, rfl, hr, hx, hy, rfl⟩ := y
    exact hs i x y rs _ r (hx xs q.1) (hy ys q.2) p hr
  · have e : i = xs.length := by omega
    subst e
    exact .inl ⟨⟨xs, ys, q.1, q.2, .inl (Nat.le_refl _)⟩, hd rs H p⟩
theorem leaves_tup2 {K : PySem.W.Frag} {n i j : Nat} (h : n ≤ i) (h' : n ≤ j) : Leaves n (gTup K 2 (gCons (gName i) (gCons (gName j) gNil))) := by
  rintro x σ H Q ⟨a, xs, rfl, hq, hl, v, r, rfl, v', r', rfl, rfl, q⟩
  exact ⟨a, _, rfl, hq, hl, v, _, rfl, v', _, rfl, rfl, ⟨by simp, fun k hk => by rw [List.getElem?_set_ne (by omega), List.getElem?_set_ne (by omega)]⟩, q⟩
theorem bi_all : bootBuiltins "all" = some (.builtin "all") := by decide +kernel
theorem bi_min : bootBuiltins "min" = some (.builtin "min") := by decide +kernel
end L2
set_option Elab.async false
set_option linter.all false
set_option maxRecDepth 100000
set_option maxHeartbeats 5000000
namespace L2
open PySem PySem.Spec PyProof.Rows PySem.SeqAt
mutual
inductive RdD (K : PySem.W.Frag) (H : Hp) : V → PyData → Prop
  | non : RdD K H .non .none
  | bl (b : Bool) : RdD K H (.bl b) (.bool b)
  | int (i : Int) : RdD K H (.int i) (.int i)
  | str (x : Str) : RdD K H (.str x) (.str x)
  | lst {a : Addr} {xs : List V} {ds : List PyData} : SqL K H a xs → RdDs K H xs ds → RdD K H (.ref a) (.list ds)
  | tup {a : Addr} {xs : List V} {ds : List PyData} : SqT K H a xs → RdDs K H xs ds → RdD K H (.ref a) (.tuple ds)
inductive RdDs (K : PySem.W.Frag) (H : Hp) : List V → List PyData → Prop
  | nil : RdDs K H [] []
  | cons {x : V} {d : PyData} {xs : List V} {ds : List PyData} : RdD K H x d → RdDs K H xs ds → RdDs K H (x :: xs) (d :: ds)
end
section
variable {X : Cx} {pins : List (Addr × Obj)} {σ : St} {H : Hp} {s : Shared}
mutual
theorem reads_of (I : Inv X pins σ H s) : ∀ {x : V} {d : PyData} {u : Value}, RdD X.K H x d → RelV x u → ∃ as, Reads s.heap u d as
  | _, _, _, .non, r => by cases r; exact ⟨_, .none⟩
  | _, _, _, .bl b, r => by cases r; exact ⟨_, .bool b⟩
  | _, _, _, .int i, ⟨t, e⟩ => by subst e; exact ⟨_, .int i t⟩
  | _, _, _, .str y, ⟨t, e⟩ => by subst e; exact ⟨_, .str y t⟩
  | _, _, _, .lst h hs, r => by
    cases r
    obtain ⟨its, rv, pl, _⟩ := I.list h
    obtain ⟨as, ra⟩ := readsAll_of I hs rv
    obtain ⟨o, ho, hc, n, hd⟩ := pl.isList
    exact ⟨_, .list ho hc hd ra⟩
  | _, _, _, .tup h hs, r => by
    cases r
    obtain ⟨its, rv, pl, _⟩ := I.tuple h
    obtain ⟨as, ra⟩ := readsAll_of I hs rv
    obtain ⟨o, ho, hc, n, hd⟩ := pl
    exact ⟨_, .tuple ho hc hd ra⟩
theorem readsAll_of (I : Inv X pins σ H s) : ∀ {xs : List V} {ds : List PyData} {us : List Value}, RdDs X.K H xs ds → Vals xs us → ∃ as, ReadsAll s.heap us ds as
  | _, _, _, .nil, .nil => ⟨_, .nil⟩
  | _, _, _, .cons h t, .cons r rs => by
    obtain ⟨as, ra⟩ := reads_of I h r
    obtain ⟨bs, rb⟩ := readsAll_of I t rs
    exact ⟨_, .cons ra rb⟩
end
end
def rEqD (K : PySem.W.Frag) : R2 := fun x y H Q => ∃ d e, RdD K H x d ∧ RdD K H y e ∧ shaped d = true ∧ shaped e = true ∧ noMix d e = true ∧ Q (.bl (same d e)) H
def rNeD (K : PySem.W.Frag) : R2 := fun x y H Q => ∃ d e, RdD K H x d ∧ RdD K H y e ∧ shaped d = true ∧ shaped e = true ∧ noMix d e = true ∧ Q (.bl (!same d e)) H
theorem hu64 {A : Around} {k : Nat} (hr : Room k A) : A.units + 64 < cLine := by have := hr.un; omega
section
variable {X : Cx}
theorem op_eqD (hu : X.A.units + 64 < cLine) : OpR X (compareOp .Eq) (rEqD X.K) := by
  intro pins s σ H x y v u Q I rx ry h
  obtain ⟨d, e, h1, h2, s1, s2, nm, q⟩ := h
  obtain ⟨as, ra⟩ := reads_of I h1 rx
  obtain ⟨bs, rb⟩ := reads_of I h2 ry
  exact eq_dataH_same ra rb s1 s2 hu nm ⟨.bl _, H, I, rfl, q⟩
theorem op_neD (hu : X.A.units + 64 < cLine) : OpR X (compareOp .NotEq) (rNeD X.K) := by
  intro pins s σ H x y v u Q I rx ry h
  obtain ⟨d, e, h1, h2, s1, s2, nm, q⟩ := h
  obtain ⟨as, ra⟩ := reads_of I h1 rx
  obtain ⟨bs, rb⟩ := reads_of I h2 ry
  exact ne_dataH_same ra rb s1 s2 hu nm ⟨.bl _, H, I, rfl, q⟩
end
theorem rd_ints {K : PySem.W.Frag} {H : Hp} : ∀ ns : List Int, RdDs K H (ns.map V.int) (ns.map PyData.int)
  | [] => .nil
  | n :: r => .cons (.int n) (rd_ints r)
theorem rd_lst {K : PySem.W.Frag} {H : Hp} {a : Addr} {ns : List Int} (h : SqL K H a (ns.map V.int)) : RdD K H (.ref a) (.list (ns.map PyData.int)) := .lst h (rd_ints ns)
theorem mix_ints (ns ms : List Int) : noMix (.list (ns.map PyData.int)) (.list (ms.map PyData.int)) = true := by simp only [noMix]; exact PySem.W.noMix_ints ns ms
theorem same_intsL (ns ms : List Int) : same (.list (ns.map PyData.int)) (.list (ms.map PyData.int)) = decide (ns = ms) := by simp only [same]; exact PySem.W.same_ints ns ms
theorem neL_of {K : PySem.W.Frag} {H : Hp} {a b : Addr} {ns ms : List Int} {Q : VK} (h1 : SqL K H a (ns.map V.int)) (h2 : SqL K H b (ms.map V.int)) (q : Q (.bl (!decide (ns = ms))) H) : rNeD K (.ref a) (.ref b) H Q :=
  ⟨_, _, rd_lst h1, rd_lst h2, PySem.W.shaped_ints ns, PySem.W.shaped_ints ms, mix_ints ns ms, by rw [same_intsL]; exact q⟩
theorem eqL_of {K : PySem.W.Frag} {H : Hp} {a b : Addr} {ns ms : List Int} {Q : VK} (h1 : SqL K H a (ns.map V.int)) (h2 : SqL K H b (ms.map V.int)) (q : Q (.bl (decide (ns = ms))) H) : rEqD K (.ref a) (.ref b) H Q :=
  ⟨_, _, rd_lst h1, rd_lst h2, PySem.W.shaped_ints ns, PySem.W.shaped_ints ms, mix_ints ns ms, by rw [same_intsL]; exact q⟩
theorem vals_toks : ∀ {ns : List Int} {its : List Value}, Vals (ns.map V.int) its → ∃ ts : List (Int × Tok), its = ts.map (fun p => Value.int p.1 p.2) ∧ ts.map (·.1) = ns
  | [], _, .nil => ⟨[], rfl, rfl⟩
  | n :: r, _, .cons ⟨t, e⟩ rs => by
    obtain ⟨ts, e1, e2⟩ := vals_toks rs
    subst e
    exact ⟨(n, t) :: ts, by rw [e1]; rfl, by rw [← e2]; rfl⟩
section
variable {X : Cx}
theorem call_sumL (hc : X.calm = true) : CallR X (.builtin "sum") (fun xs H Q => ∃ (a : Addr) (ns : List Int), xs = [.ref a] ∧ SqL X.K H a (ns.map V.int) ∧ Q (.int ns.sum) H) := by
  intro pins s σ H xs us Q I r h
  obtain ⟨a, ns, rfl, hl, q⟩ := h
  obtain ⟨u, rfl, ru⟩ := vals1 r
  cases ru
  obtain ⟨its, rv, pl, _⟩ := I.list hl
  obtain ⟨ts, e1, e2⟩ := vals_toks rv
  have hi : s.heap.IsList a (intItems ts.toArray) := by
    have e : intItems ts.toArray = its.toArray := by rw [e1]; simp [intItems]
    rw [e]; exact pl.isList
  refine sum_intListG (I.ok.hd hc) hi fun h' tk t' hk => ⟨.int ns.sum, H, I.kept (t' := tk) hk, ⟨t', ?_⟩, q⟩
  rw [preSum_eq, List.take_of_length_le (by simp), ← e2]
end
end L2
set_option linter.all false
namespace Ld
def S : Nat → (Int → Int) → Int
  | 0, _ => 0
  | n + 1, F => S n F + F n
theorem S_congr {F G : Int → Int} : ∀ {n : Nat}, (∀ j : Nat, j < n → F j = G j) → S n F = S n G
  | 0, _ => rfl
  | n + 1, h => by simp only [S]; rw [S_congr fun j hj => h j (by omega), h n (by omega)]
theorem S_zero : ∀ n : Nat, S n (fun _ => 0) = 0
  | 0 => rfl
  | n + 1 => by simp only [S]; rw [S_zero n]; rfl
theorem S_add (F G : Int → Int) : ∀ n : Nat, S n (fun j => F j + G j) = S n F + S n G
  | 0 => rfl
  | n + 1 => by simp only [S]; rw [S_add F G n]; omega
theorem S_mul (c : Int) (F : Int → Int) : ∀ n : Nat, S n (fun j => c * F j) = c * S n F
  | 0 => by simp [S]
  | n + 1 => by simp only [S]; rw [S_mul c F n, Int.mul_add]
theorem S_swap (F : Int → Int → Int) (m : Nat) : ∀ n : Nat, S n (fun j => S m (fun k => F j k)) = S m (fun k => S n (fun j => F j k))
  | 0 => by simp only [S]; rw [S_zero]
  | n + 1 => by simp only [S]; rw [S_swap F m n, ← S_add]
theorem S_one {c : Int} {G : Int → Int} : ∀ {n : Nat}, 0 ≤ c → S n (fun j => if j = c then G j else 0) = if c < n then G c else 0
  | 0, h => by simp only [S]; rw [if_neg (by omega)]
  | n + 1, h => by
    simp only [S]
    rw [S_one h]
    by_cases e : (n : Int) = c
    · subst e
      rw [if_neg (by omega), if_pos rfl, if_pos (by omega)]; omega
    · rw [if_neg e]
      by_cases q : c < (n : Int)
      · rw [if_pos q, if_pos (by omega)]; omega
      · rw [if_neg q, if_neg (by omega)]; omega
def Per (n : Nat) (F : Int → Int) : Prop := ∀ x y : Int, x % n = y % n → F x = F y
theorem Per.md {n : Nat} {F : Int → Int} (h : Per n F) (x : Int) : F (x % n) = F x := h _ _ (Int.emod_emod_of_dvd x (Int.dvd_refl _))
theorem S_bij {n : Nat} (hn : 0 < n) {F : Int → Int} (hF : Per n F) (φ ψ : Int → Int) (hφ : ∀ x y : Int, x % n = y % n → φ x % n = φ y % n) (hψ : ∀ x y : Int, x % n = y % n → ψ x % n = ψ y % n)
    (h1 : ∀ x, ψ (φ x) % n = x % n) (h2 : ∀ x, φ (ψ x) % n = x % n) : S n (fun j => F (φ j)) = S n F := by
  have np : (0 : Int) < n := by omega
  have e1 : S n (fun j => F (φ j)) = S n (fun j => S n (fun k => if k = φ j % n then F k else 0)) := S_congr fun j hj => by
    rw [S_one (Int.emod_nonneg _ (by omega)), if_pos (Int.emod_lt_of_pos _ np), hF.md]
  rw [e1, S_swap]
  refine S_congr fun k hk => ?_
  have e2 : S n (fun j => if (k : Int) = φ j % n then F k else 0) = S n (fun j => if j = ψ k % n then F k else 0) := S_congr fun j hj => by
    have ej : (j : Int) % n = j := Int.emod_eq_of_lt (by omega) (by omega)
    have ek : (k : Int) % n = k := Int.emod_eq_of_lt (by omega) (by omega)
    have iff : ((k : Int) = φ j % n) ↔ ((j : Int) = ψ k % n) := by
      constructor
      · intro e
        have := hψ k (φ j) (by rw [ek]; exact e)
        rw [this, h1, ej]
      · intro e
        have := hφ j (ψ k) (by rw [ej]; exact e)
        rw [this, h2, ek]
    by_cases q : (k : Int) = φ j % n
    · rw [if_pos q, if_pos (iff.mp q)]
    · rw [if_neg q, if_neg fun z => q (iff.mpr z)]
  rw [e2, S_one (G := fun _ => F k) (Int.emod_nonneg _ (by omega)), if_pos (Int.emod_lt_of_pos _ np)]
theorem emod_add_of {n x y : Int} (c : Int) (h : x % n = y % n) : (x + c) % n = (y + c) % n := by rw [Int.add_emod, h, ← Int.add_emod]
theorem emod_mul_of {n x y : Int} (c : Int) (h : x % n = y % n) : (x * c) % n = (y * c) % n := by rw [Int.mul_emod, h, ← Int.mul_emod]
theorem emod_sub_of {n x y : Int} (c : Int) (h : x % n = y % n) : (c - x) % n = (c - y) % n := by rw [Int.sub_emod, h, ← Int.sub_emod]
theorem S_refl {n : Nat} (hn : 0 < n) {F : Int → Int} (hF : Per n F) (c : Int) : S n (fun j => F (c - j)) = S n F :=
  S_bij hn hF (fun j => c - j) (fun j => c - j) (fun x y h => emod_sub_of c h) (fun x y h => emod_sub_of c h) (fun x => by congr 1; omega) (fun x => by congr 1; omega)
theorem S_unit {n : Nat} (hn : 0 < n) {F : Int → Int} (hF : Per n F) {u v : Int} (huv : (u * v) % n = 1 % n) : S n (fun j => F (j * u)) = S n F := by
  have one : ∀ x : Int, (x * (u * v)) % n = x % n := fun x => by rw [Int.mul_emod, huv, ← Int.mul_emod, Int.mul_one]
  refine S_bij hn hF (fun j => j * u) (fun j => j * v) (fun x y h => emod_mul_of u h) (fun x y h => emod_mul_of v h) (fun x => ?_) (fun x => ?_)
  · show (x * u * v) % n = _
    rw [Int.mul_assoc]; exact one x
  · show (x * v * u) % n = _
    rw [Int.mul_assoc, Int.mul_comm v u]; exact one x
def at' (a : List Int) (x : Int) : Int := a.getD (x % a.length).toNat 0
theorem at_per (a : List Int) : Per a.length (at' a) := fun x y h => by unfold at'; rw [h]
theorem at_per' {a : List Int} {n : Nat} (h : a.length = n) : Per n (at' a) := h ▸ at_per a
theorem hole_lt {n : Nat} (hn : 0 < n) (x : Int) : (x % n).toNat < n := by
  have h1 := Int.emod_nonneg x (show (n : Int) ≠ 0 by omega)
  have h2 := Int.emod_lt_of_pos x (show (0 : Int) < n by omega)
  omega
theorem hole_eq {n : Nat} (hn : 0 < n) (x : Int) : (((x % n).toNat : Nat) : Int) = x % n := Int.toNat_of_nonneg (Int.emod_nonneg x (by omega))
theorem at_get {a : List Int} {x : Int} (h : 0 < a.length) : a[(x % a.length).toNat]? = some (at' a x) := by
  have := hole_lt h x
  unfold at'
  rw [List.getD_eq_getElem?_getD, List.getElem?_eq_getElem this]; rfl
theorem at_nat {a : List Int} {k : Nat} {v : Int} (h : a[k]? = some v) : at' a k = v := by
  have hk : k < a.length := (List.getElem?_eq_some_iff.mp h).1
  unfold at'
  rw [Int.emod_eq_of_lt (by omega) (by omega), Int.toNat_natCast, List.getD_eq_getElem?_getD, h]; rfl
theorem get_at {a : List Int} {k : Nat} (h : k < a.length) : a[k]? = some (at' a k) := by
  rw [List.getElem?_eq_getElem h]; exact congrArg some (at_nat (List.getElem?_eq_getElem h)).symm
theorem ext {a b : List Int} (hl : a.length = b.length) (h : ∀ k : Nat, k < a.length → at' a k = at' b k) : a = b := by
  refine List.ext_getElem? fun k => ?_
  by_cases hk : k < a.length
  · rw [get_at hk, get_at (hl ▸ hk), h k hk]
  · rw [List.getElem?_eq_none (by omega), List.getElem?_eq_none (by omega)]
theorem at_set {a : List Int} {n : Nat} (hl : a.length = n) (hn : 0 < n) (x v y : Int) : at' (a.set (x % n).toNat v) y = if y % n = x % n then v else at' a y := by
  have hx := hole_lt hn x
  have hy := hole_lt hn y
  unfold at'
  rw [List.length_set, hl, List.getD_eq_getElem?_getD, List.getElem?_set]
  by_cases e : y % n = x % n
  · rw [if_pos e, e, if_pos rfl, if_pos (by omega)]; rfl
  · rw [if_neg e, if_neg fun z => e ?_, ← List.getD_eq_getElem?_getD]
    have := congrArg (Nat.cast (R := Int)) z
    rw [hole_eq hn, hole_eq hn] at this
    exact this.symm
theorem at_rep (n : Nat) (x : Int) : at' (List.replicate n 0) x = 0 := by
  unfold at'
  rw [List.getD_eq_getElem?_getD, List.getElem?_replicate]
  split <;> rfl
def conv (a b : List Int) : List Int := (List.range b.length).map fun x : Nat => S b.length fun j => at' a j * at' b ((x : Int) - j)
theorem conv_len (a b : List Int) : (conv a b).length = b.length := by simp [conv]
theorem per_conv {a b : List Int} {n : Nat} (h : b.length = n) : Per n fun x => S n fun j => at' a j * at' b (x - j) := fun x y e => S_congr fun j _ => by
  have : at' b (x - j) = at' b (y - j) := at_per' h _ _ (by rw [Int.sub_emod, e, ← Int.sub_emod])
  rw [this]
theorem at_conv {a b : List Int} {n : Nat} (h : b.length = n) (hn : 0 < n) (x : Int) : at' (conv a b) x = S n fun j => at' a j * at' b (x - j) := by
  subst h
  have e := at_get (a := conv a b) (x := x) (by rw [conv_len]; exact hn)
  rw [conv_len] at e
  unfold conv at e
  rw [List.getElem?_map, List.getElem?_range (hole_lt hn x)] at e
  have e' := Option.some.inj e
  unfold conv
  rw [← e']
  show (S b.length fun j => at' a j * at' b (((x % b.length).toNat : Nat) - j)) = _
  rw [hole_eq hn]
  exact (per_conv (a := a) (b := b) rfl).md x
theorem per_shift {n : Nat} {F : Int → Int} (h : Per n F) (c : Int) : Per n fun j => F (c - j) := fun x y e => h _ _ (emod_sub_of c e)
theorem per_mul {n : Nat} {F G : Int → Int} (h : Per n F) (g : Per n G) : Per n fun j => F j * G j := fun x y e => by show F x * G x = _; rw [h x y e, g x y e]
def Bd (B : Nat) (a : List Int) : Prop := ∀ x ∈ a, x.natAbs ≤ B
theorem bd_mono {B C : Nat} {a : List Int} (h : Bd B a) (l : B ≤ C) : Bd C a := fun x hx => Nat.le_trans (h x hx) l
theorem bd_set {B C : Nat} {a : List Int} {k : Nat} {v : Int} (h : Bd B a) (l : B ≤ C) (hv : v.natAbs ≤ C) : Bd C (a.set k v) := fun x hx => by
  rcases List.mem_or_eq_of_mem_set hx with z | z
  · exact Nat.le_trans (h x z) l
  · rw [z]; exact hv
theorem bd_rep (B n : Nat) : Bd B (List.replicate n 0) := fun x hx => by rw [(List.mem_replicate.mp hx).2]; exact Nat.zero_le _
theorem at_bd {B : Nat} {a : List Int} (h : Bd B a) (x : Int) : (at' a x).natAbs ≤ B := by
  unfold at'
  rw [List.getD_eq_getElem?_getD]
  cases e : a[(x % a.length).toNat]? with
  | none => exact Nat.zero_le _
  | some v => exact h v (List.mem_of_getElem? e)
theorem bd_of {B : Nat} {a : List Int} (h : ∀ k : Nat, k < a.length → (at' a k).natAbs ≤ B) : Bd B a := fun x hx => by
  obtain ⟨k, hk, rfl⟩ := List.mem_iff_getElem.mp hx
  have := h k hk
  rwa [at_nat (List.getElem?_eq_getElem hk)] at this
theorem numB (v : Int) : (v / 3 % 7 - 3).natAbs < 2 ^ 200 ∧ (v / 3 % 2001 - 1000).natAbs < 2 ^ 200 ∧ (v / 3 % (2 * 10 ^ 60 + 1) - 10 ^ 60).natAbs < 2 ^ 200 := by
  have a1 := Int.emod_nonneg (v / 3) (show (7 : Int) ≠ 0 by decide)
  have a2 := Int.emod_lt_of_pos (v / 3) (show (0 : Int) < 7 by decide)
  have b1 := Int.emod_nonneg (v / 3) (show (2001 : Int) ≠ 0 by decide)
  have b2 := Int.emod_lt_of_pos (v / 3) (show (0 : Int) < 2001 by decide)
  have p : (2 : Nat) ^ 200 = 1606938044258990275541962092341162602522202993782792835301376 := by decide +kernel
  have t : (10 : Int) ^ 60 = 1000000000000000000000000000000000000000000000000000000000000 := by decide +kernel
  rw [p, t]
  have c1 := Int.emod_nonneg (v / 3) (show (2 * 1000000000000000000000000000000000000000000000000000000000000 + 1 : Int) ≠ 0 by decide)
  have c2 := Int.emod_lt_of_pos (v / 3) (show (0 : Int) < 2 * 1000000000000000000000000000000000000000000000000000000000000 + 1 by decide)
  refine ⟨by omega, by omega, by omega⟩
end Ld
set_option linter.all false
namespace Ld
def nz (a : List Int) (i : Nat) : List (Int × Int) := ((List.range i).map fun j : Nat => ((j : Int), at' a j)).filter fun p => decide (¬ p.2 = 0)
theorem lay0 {m : Nat} (a b : List Int) (i : Nat) {d : List Int} (h : ∀ x, at' d x = S i fun j => at' a j * at' b (x - j)) (hm : 0 < m) :
    ∀ x, at' d x = (S i fun j => at' a j * at' b (x - j)) + (if (x - i) % m < (0 : Nat) then at' a i * at' b (x - i) else 0) := fun x => by
  have := Int.emod_nonneg (x - i) (show (m : Int) ≠ 0 by omega)
  rw [if_neg (by omega), Int.add_zero]; exact h x
theorem lay1 {m : Nat} {a b d : List Int} {i k : Nat} (hd : d.length = m) (hb : b.length = m) (hk : k < m)
    (h : ∀ x, at' d x = (S i fun j => at' a j * at' b (x - j)) + (if (x - i) % m < k then at' a i * at' b (x - i) else 0)) :
    ∀ x, at' (d.set (((i : Int) + k) % m).toNat (at' d ((i : Int) + k) + at' a i * at' b k)) x = (S i fun j => at' a j * at' b (x - j)) + (if (x - i) % m < ((k + 1 : Nat) : Int) then at' a i * at' b (x - i) else 0) := fun x => by
  have hm : 0 < m := by omega
  have km : (k : Int) % m = k := Int.emod_eq_of_lt (by omega) (by omega)
  rw [at_set hd hm]
  by_cases e : x % m = ((i : Int) + k) % m
  · have ek : (x - i) % m = k := by
      rw [Int.sub_emod, e, ← Int.sub_emod, show (i : Int) + k - i = k by omega, km]
    rw [if_pos e, ek, if_pos (by omega), h]
    have e1 : S i (fun j => at' a j * at' b ((i : Int) + k - j)) = S i (fun j => at' a j * at' b (x - j)) := S_congr fun j _ => by
      rw [at_per' hb ((i : Int) + k - j) (x - j) (by rw [Int.sub_emod, ← e, ← Int.sub_emod])]
    rw [e1, show (i : Int) + k - i = k by omega, km, if_neg (by omega), at_per' hb (x - i) k (by rw [ek, km])]
    omega
  · have ek : (x - i) % m ≠ k := fun z => e (by
      have : ((x - i) % m + i) % m = ((k : Int) + i) % m := by rw [z]
      rw [Int.emod_add_emod, show x - i + i = x by omega, Int.add_comm (k : Int)] at this
      exact this)
    rw [if_neg e, h]
    by_cases q : (x - i) % m < k
    · rw [if_pos q, if_pos (by omega)]
    · rw [if_neg q, if_neg (by omega)]
theorem lay2 {m : Nat} {a b d : List Int} {i : Nat} (hm : 0 < m)
    (h : ∀ x, at' d x = (S i fun j => at' a j * at' b (x - j)) + (if (x - i) % m < ((m : Nat) : Int) then at' a i * at' b (x - i) else 0)) : ∀ x, at' d x = S (i + 1) fun j => at' a j * at' b (x - j) := fun x => by
  rw [h, if_pos (Int.emod_lt_of_pos _ (by omega))]; rfl
end Ld
set_option Elab.async false
set_option linter.all false
set_option maxRecDepth 100000
set_option maxHeartbeats 5000000
namespace L2
open PySem PySem.Spec PyProof.Rows PySem.SeqAt
theorem ixN_in {n : Nat} {k : Int} (h0 : 0 ≤ k) (h1 : k < n) : ixN n k = some k.toNat := by unfold ixN; rw [if_pos h0, if_pos h1]
theorem ixN_mod {xs : List V} {n : Nat} (hl : xs.length = n) (hn : 0 < n) (x : Int) : ixN xs.length (x % n) = some (x % n).toNat := by
  rw [hl]; exact ixN_in (Int.emod_nonneg _ (by omega)) (Int.emod_lt_of_pos _ (by omega))
theorem mlen {a : List Int} {n : Nat} (hl : a.length = n) : (a.map V.int).length = n := by rw [List.length_map, hl]
theorem atI_mod {a : List Int} {n : Nat} (hl : a.length = n) (hn : 0 < n) (x : Int) : atI (a.map V.int) (x % n) = some (.int (Ld.at' a x)) := by
  subst hl
  unfold atI
  rw [ixN_mod (mlen rfl) hn]
  show (a.map V.int)[(x % (a.length : Int)).toNat]? = _
  rw [List.getElem?_map, Ld.at_get hn]; rfl
theorem atI_k {a : List Int} {k : Int} (h0 : 0 ≤ k) (hk : k < a.length) : atI (a.map V.int) k = some (.int (Ld.at' a k)) := by
  have := atI_mod (a := a) rfl (by omega) k
  rwa [Int.emod_eq_of_lt h0 hk] at this
theorem rep0 (m : Nat) : (List.replicate ((m : Nat) : Int).toNat [V.int 0]).flatten = (List.replicate m (0 : Int)).map V.int := by
  rw [Int.toNat_natCast]
  induction m with
  | zero => rfl
  | succ k ih => rw [List.replicate_succ, List.flatten_cons, ih, List.replicate_succ, List.map_cons]; rfl
theorem set_int {a : List Int} {j : Nat} {v : Int} : (a.map V.int).set j (.int v) = (a.set j v).map V.int := by rw [List.map_set]
theorem ref_at {as : List Addr} {i : Nat} {x : V} (h : (as.map V.ref)[i]? = some x) : ∃ a, x = .ref a ∧ as[i]? = some a := by
  rw [List.getElem?_map] at h
  cases e : as[i]? with
  | none => rw [e] at h; cases h
  | some v => rw [e] at h; cases h; exact ⟨v, rfl, rfl⟩
theorem mulB {a b : Int} {B C : Nat} (ha : a.natAbs ≤ 2 ^ B) (hb : b.natAbs ≤ 2 ^ C) (h : B + C ≤ 1000000) : IntMulOk a b :=
  mul_ok (m := B + 1) (n := C + 1) (Nat.lt_of_le_of_lt ha (Nat.pow_lt_pow_right (by decide) (Nat.lt_succ_self _))) (Nat.lt_of_le_of_lt hb (Nat.pow_lt_pow_right (by decide) (Nat.lt_succ_self _))) (by omega)
theorem for_range0 {n : Nat} {g : TG} {tb : TS} {D : Ends} {σ : St} {H : Hp} (Pv : Nat → St → Hp → Prop) (h0 : Pv 0 σ H)
    (hs : ∀ i σ H, i < n → Pv i σ H → g (.int i) σ H fun σ2 H2 => tb { D with nx := Pv (i + 1), ct := Pv (i + 1), bk := D.nx } σ2 H2) (hd : ∀ σ H, Pv n σ H → D.nx σ H) :
    ∃ W : Nat → Nat → St → Hp → Prop, (∃ m, W 0 m σ H) ∧ ∀ i m σ H, W i m σ H →
      ((Itr 0 n).stop i H ∧ D.nx σ H) ∨ ((Itr 0 n).go i H ∧ ∃ N : St → Hp → Prop, (∀ σ' H', N σ' H' → ∃ m', m' < m ∧ W (i + 1) m' σ' H') ∧ ∀ x H', (Itr 0 n).yld i H x H' → g x σ H' fun σ2 H2 => tb { D with nx := N, ct := N, bk := D.nx } σ2 H2) :=
  for_range Pv h0 (fun i σ H hi p => by rw [Int.zero_add]; exact hs i σ H hi p) hd
theorem comp_range0 {n : Nat} {g : TG} {tc : TT} {te : TE} {σ' : St} {H : Hp} {Q : VK} (Pv : Nat → List V → Hp → Prop) (h0 : Pv 0 [] H) (hz : ∀ i ys H, i < n → Pv i ys H → ys.length < sizeLine)
    (hs : ∀ i ys H, i < n → Pv i ys H → g (.int i) σ' H fun σ2 H2 => tc σ2 H2 fun b H3 => if b = true then te σ2 H3 fun y H4 => Pv (i + 1) (ys ++ [y]) H4 else Pv (i + 1) ys H3) (hd : ∀ ys H, Pv n ys H → ∀ D, H D = none → Q (.ref D) (upd H D (.lst ys))) :
    CompGo (Itr 0 n) g tc te σ' Q H := comp_range Pv h0 hz (fun i ys H hi p => by rw [Int.zero_add]; exact hs i ys H hi p) hd
theorem ix_listK {X : Cx} {K : PySem.W.Frag} (h : X.K = K) : IxR X (rIxL K) := by subst h; exact ix_list
theorem call_sumLK {X : Cx} {K : PySem.W.Frag} (hc : X.calm = true) (h : X.K = K) : CallR X (.builtin "sum") (fun xs H Q => ∃ (a : Addr) (ns : List Int), xs = [.ref a] ∧ SqL K H a (ns.map V.int) ∧ Q (.int ns.sum) H) := by subst h; exact call_sumL hc
end L2
set_option Elab.async false
set_option linter.all false
set_option maxRecDepth 100000
set_option maxHeartbeats 5000000
namespace L2
open PySem PySem.Spec PyProof.Rows
def cnt3 (lo hi st : Int) : Nat := if lo < hi then ((hi - lo - 1) / st + 1).toNat else 0
theorem size3 {lo hi st : Int} (h : 0 < st) : Builtin.Range.rangeSize lo hi st = (cnt3 lo hi st : Nat) := by
  unfold Builtin.Range.rangeSize cnt3
  rw [if_pos h]
  split
  · have := Int.ediv_nonneg (show 0 ≤ hi - lo - 1 by omega) (show 0 ≤ st by omega)
    omega
  · rfl
theorem cnt3_le {lo hi st : Int} (h : 0 < st) (h0 : 0 ≤ lo) (h1 : hi ≤ 1000000) : cnt3 lo hi st ≤ 1000000 := by
  unfold cnt3
  split
  · have := Int.ediv_le_self (b := st) (show 0 ≤ hi - lo - 1 by omega)
    omega
  · omega
section
variable {X : Cx} {tg : Expr}
end
theorem inV_ints (p : Int) : ∀ l : List Int, inV (.int p) (l.map V.int) = decide (p ∈ l)
  | [] => by simp [inV]
  | a :: r => by
    have ih := inV_ints p r
    unfold inV at ih ⊢
    rw [List.map_cons, List.any_cons, ih]
    show ((a == p) || decide (p ∈ r)) = _
    by_cases h : a = p
    · simp [h]
    · have h' : ¬ p = a := fun e => h e.symm
      simp [h, h']
theorem flat_ints : ∀ l : List Int, (l.map V.int).all flatV = true
  | [] => rfl
  | a :: r => by rw [List.map_cons, List.all_cons, flat_ints r]; rfl
def TrAt (H : Hp) (r : Addr) (ts : List (Int × Int × Int)) : Prop := ∃ as : List Addr, H r = some (.lst (as.map V.ref)) ∧ Paired (fun a (x : Int × Int × Int) => H a = some (.tup [.int x.1, .int x.2.1, .int x.2.2])) as ts
theorem TrAt.same {H H' : Hp} {r : Addr} {ts : List (Int × Int × Int)} (h : TrAt H r ts) (s : Same H H') : TrAt H' r ts := let ⟨as, h1, h2⟩ := h; ⟨as, s _ _ h1, Paired.mapP h2 fun d x e => s _ _ e⟩
end L2
set_option Elab.async false
set_option linter.all false
set_option maxRecDepth 100000
set_option maxHeartbeats 5000000
namespace L2
open PySem PySem.Spec PyProof.Rows PySem.SeqAt
section
variable {X : Cx}
theorem vals_of_items : ∀ {l : List Value} {n : Nat} {F : Nat → V}, l.length = n → (∀ (j : Nat) v, l[j]? = some v → RelV (F j) v) → Vals ((List.range n).map F) l
  | [], n, F, hl, _ => by cases hl; exact .nil
  | v :: l, n, F, hl, h => by
    cases hl
    have e : (List.range (v :: l).length).map F = F 0 :: (List.range l.length).map (fun j => F (j + 1)) := by
      rw [List.length_cons, List.range_succ_eq_map, List.map_cons, List.map_map]; rfl
    rw [e]
    exact .cons (h 0 v rfl) (vals_of_items rfl fun j u hj => h (j + 1) u hj)
def rg3 (lo st : Int) (n : Nat) : List Int := (List.range n).map fun (i : Nat) => lo + (i : Int) * st
def tLR3 (ta : TA) : TE := fun σ H Q => ta σ H fun vs H1 => ∃ i j k : Int, vs = [.int i, .int j, .int k] ∧ (0 ≤ i ∧ i ≤ 1000000 ∧ 0 ≤ j ∧ j ≤ 1000000 ∧ 0 < k ∧ k ≤ 1000000) ∧ ∀ l, H1 l = none → Q (.ref l) (upd H1 l (.lst ((rg3 i k (cnt3 i j k)).map V.int)))
theorem pe_lrng3 {a b c : Expr} {ta : TA} {p p2 pos pos2 : Pos} (hcm : X.calm = true) (hgl : Gl X "list") (hml : X.mg "list" = none) (hg : Gl X "range") (hm : X.mg "range" = none) (ha : PA X [a, b, c] ta)
    (he : starEach [a, b, c] X.env = (false, eval a X.env) :: starEach [b, c] X.env := by rfl) (hpl : (backTo pos2 (starEach [b, c] X.env)).any (·.1) = false := by rfl)
    (he2 : starEach [.Call (.Name "range" p2) [a, b, c] [] pos2] X.env = (false, eval (.Call (.Name "range" p2) [a, b, c] [] pos2) X.env) :: starEach [] X.env := by rfl) :
    PE X (.Call (.Name "list" p) [.Call (.Name "range" p2) [a, b, c] [] pos2] [] pos) (tLR3 ta) := by
  intro pins s σ H Q I h
  refine wpAny_Call_Name_kw (ld_blt I hgl hml bi_list ?_)
  refine PyProof.Rows.callWith_type1 ?_ he2 rfl
  rw [he2]
  show wpAny _ _ (spliced ((false, eval (.Call (.Name "range" p2) [a, b, c] [] pos2) X.env) :: backTo pos (starEach [] X.env))) _ _ s
  refine Calls.spliced_cons ?_
  refine Call_ (ld_blt I hg hm boot_range (PyProof.Rows.callWith_type1 (thn (ha pos2 pins s σ H _ I h) fun us s1 ⟨vs, H1, I1, r1, q1⟩ => ?_) he hpl))
  obtain ⟨i, j, k, e, ⟨q1, q2, q3, q4, q5, q6⟩, q⟩ := q1
  subst e
  cases r1 with
  | cons r rr =>
    cases rr with
    | cons r' rr =>
      cases rr with
      | cons r'' rr =>
        cases rr
        obtain ⟨t, rfl⟩ := r
        obtain ⟨t', rfl⟩ := r'
        obtain ⟨t'', rfl⟩ := r''
        refine call_range_3 (by omega) ?_ (.inl (PyProof.noPylong_small (by omega)))
        have c3 := cnt3_le (lo := i) q5 q1 q4
        have sm : Builtin.Range.small i j k = true := by
          unfold Builtin.Range.small
          rw [size3 q5]
          simp only [Builtin.Range.rangeFitsLong, Bool.and_eq_true, Bool.or_eq_true, decide_eq_true_eq, beq_iff_eq, q5, if_true, gt_iff_lt]
          omega
        have I2 : Inv X pins σ H1 { s1 with heap := s1.heap.push { cls := .type "range", data := .fields #[.int i t, .int j t', .int k t''] }, toks := s1.toks } := I1.kept fun b o e => Heap.get?_push_of_some _ e
        refine Calls.spliced_nil ?_
        refine call_list_range (n := cnt3 i j k) (I2.ok.hd hcm) (IsRange.new ..) sm (size3 q5) (by omega) fun h' tk acc' c' kp e items => ?_
        have vals : Vals ((rg3 i k (cnt3 i j k)).map V.int) acc'.toList := by
          unfold rg3
          rw [List.map_map]
          refine vals_of_items (by rw [Array.length_toList]; exact items.1) fun m v hm => ?_
          have := items.2 m v (by rw [← Array.getElem?_toList]; exact hm)
          obtain ⟨t, rfl⟩ := this
          exact ⟨t, rfl⟩
        have hz : ((rg3 i k (cnt3 i j k)).map V.int).length ≤ sizeLine := by
          unfold rg3; rw [List.length_map, List.length_map, List.length_range]; exact Nat.le_trans c3 (by decide)
        refine ⟨.ref _, _, I2.laid (t' := tk) kp (Nat.le_refl _) (show ObjOk X.prog X.w _ h' _ (.lst ((rg3 i k (cnt3 i j k)).map V.int)) from ⟨hz, acc'.toList, c', vals, by simpa using e⟩), rfl, q _ (I2.hok.fresh (Nat.le_refl _))⟩
end
end L2
set_option Elab.async false
set_option linter.all false
set_option maxRecDepth 100000
set_option maxHeartbeats 5000000
namespace L2
open PySem PySem.Spec PyProof.Rows
section
variable {κ : Type} [DecidableEq κ]
def valV (kvs : List (κ × V)) (k : κ) : Option V := (kvs.find? fun kv => decide (kv.1 = k)).map (·.2)
def putK (kvs : List (κ × V)) (k : κ) (v : V) : List (κ × V) :=
  if (kvs.any fun kv => decide (kv.1 = k)) = true then kvs.map (fun kv => if kv.1 = k then (kv.1, v) else kv) else kvs ++ [(k, v)]
def dropK (kvs : List (κ × V)) (k : κ) : List (κ × V) := kvs.filter fun kv => decide (kv.1 ≠ k)

theorem valV_pos {p : κ × V} {r : List (κ × V)} {k : κ} (e : p.1 = k) : valV (p :: r) k = some p.2 := by simp [valV, List.find?_cons, e]
theorem valV_neg {p : κ × V} {r : List (κ × V)} {k : κ} (e : ¬ p.1 = k) : valV (p :: r) k = valV r k := by simp [valV, List.find?_cons, e]
theorem valV_any (k : κ) : ∀ kvs : List (κ × V), (kvs.any fun kv => decide (kv.1 = k)) = (valV kvs k).isSome
  | [] => rfl
  | p :: r => by
    rw [List.any_cons]
    by_cases e : p.1 = k
    · simp only [valV_pos e, decide_eq_true e, Bool.true_or, Option.isSome_some]
    · rw [valV_neg e, decide_eq_false e, Bool.false_or]; exact valV_any k r
theorem valV_map (k j : κ) (y : V) : ∀ kvs : List (κ × V), valV (kvs.map fun kv => if kv.1 = k then (kv.1, y) else kv) j = (valV kvs j).map fun x => if j = k then y else x
  | [] => rfl
  | p :: r => by
    have ih := valV_map k j y r
    rw [List.map_cons]
    by_cases h : p.1 = k
    · rw [if_pos h]
      by_cases e : p.1 = j
      · rw [valV_pos (p := (p.1, y)) e, valV_pos e, Option.map_some, if_pos (e.symm.trans h)]
      · rw [valV_neg (p := (p.1, y)) e, valV_neg e, ih]
    · rw [if_neg h]
      by_cases e : p.1 = j
      · rw [valV_pos (p := p) e, valV_pos e, Option.map_some, if_neg (fun z => h (e.trans z))]
      · rw [valV_neg (p := p) e, valV_neg e, ih]
theorem valV_snoc (k j : κ) (y : V) : ∀ kvs : List (κ × V), valV kvs k = none → valV (kvs ++ [(k, y)]) j = if j = k then some y else valV kvs j
  | [], _ => by
    by_cases e : k = j
    · rw [if_pos e.symm]; exact valV_pos (p := (k, y)) e
    · rw [if_neg (fun z => e z.symm)]; exact valV_neg (p := (k, y)) e
  | p :: r, hn => by
    rw [List.cons_append]
    have hk : ¬ p.1 = k := fun z => by rw [valV_pos z] at hn; cases hn
    rw [valV_neg hk] at hn
    have ih := valV_snoc k j y r hn
    by_cases e : p.1 = j
    · rw [valV_pos e, valV_pos e, if_neg (fun z => hk (e.trans z))]
    · rw [valV_neg e, valV_neg e, ih]
theorem valV_put (kvs : List (κ × V)) (k j : κ) (y : V) : valV (putK kvs k y) j = if j = k then some y else valV kvs j := by
  unfold putK
  by_cases a : (kvs.any fun kv => decide (kv.1 = k)) = true
  · rw [if_pos a, valV_map]
    rw [valV_any] at a
    by_cases e : j = k
    · obtain ⟨x, hx⟩ := Option.isSome_iff_exists.mp a
      rw [if_pos e, e, hx, Option.map_some, if_pos rfl]
    · rw [if_neg e]
      cases valV kvs j with
      | none => rfl
      | some x => rw [Option.map_some, if_neg e]
  · rw [if_neg a]
    refine valV_snoc k j y kvs ?_
    rw [valV_any] at a
    cases q : valV kvs k with
    | none => rfl
    | some x => rw [q] at a; exact (a rfl).elim
theorem length_putK (kvs : List (κ × V)) (k : κ) (v : V) : (putK kvs k v).length ≤ kvs.length + 1 := by
  unfold putK
  split
  · rw [List.length_map]; omega
  · rw [List.length_append, List.length_cons, List.length_nil]; omega
theorem RelO.isSome_eq {o : Option V} {u : Option Value} (r : RelO o u) : o.isSome = u.isSome := by
  cases o with
  | none => cases u with
    | none => rfl
    | some _ => exact (show False from r).elim
  | some _ => cases u with
    | none => exact (show False from r).elim
    | some _ => rfl
theorem RelO.getD {o : Option V} {u : Option Value} {d : V} {d' : Value} (r : RelO o u) (rd : RelV d d') : RelV (o.getD d) (u.getD d') := by
  cases o with
  | none => cases u with
    | none => exact rd
    | some _ => exact (show False from r).elim
  | some _ => cases u with
    | none => exact (show False from r).elim
    | some _ => exact r

theorem KV.val {kvs : List (κ × V)} {vs : List (κ × Value)} (r : KV kvs vs) (k : κ) : RelO (valV kvs k) (valueAt vs k) := by
  unfold KV at r
  induction r with
  | nil => exact True.intro
  | @cons p q ps qs h t ih =>
    obtain ⟨h1, h2⟩ := h
    by_cases e : p.1 = k
    · have e' : q.1 = k := h1.symm.trans e
      have b : valueAt (q :: qs) k = some q.2 := by simp [valueAt, List.find?_cons, e']
      rw [valV_pos e, b]; exact h2
    · have e' : ¬ q.1 = k := fun z => e (h1.trans z)
      have b : valueAt (q :: qs) k = valueAt qs k := by simp [valueAt, List.find?_cons, e']
      rw [valV_neg e, b]; exact ih
theorem KV.any {kvs : List (κ × V)} {vs : List (κ × Value)} (r : KV kvs vs) (k : κ) : (kvs.any fun kv => decide (kv.1 = k)) = vs.any fun kv => decide (kv.1 = k) := by
  unfold KV at r
  induction r with
  | nil => rfl
  | cons h t ih => rw [List.any_cons, List.any_cons, ih, h.1]
theorem KV.repl {kvs : List (κ × V)} {vs : List (κ × Value)} (r : KV kvs vs) (k : κ) {y : V} {u : Value} (ry : RelV y u) :
    KV (kvs.map fun kv => if kv.1 = k then (kv.1, y) else kv) (vs.map fun kv => if kv.1 = k then (kv.1, u) else kv) := by
  unfold KV at r ⊢
  induction r with
  | nil => exact .nil
  | @cons p q ps qs h t ih =>
    rw [List.map_cons, List.map_cons]
    refine .cons ?_ ih
    obtain ⟨h1, h2⟩ := h
    by_cases e : p.1 = k
    · rw [if_pos e, if_pos (h1.symm.trans e)]; exact ⟨h1, ry⟩
    · rw [if_neg e, if_neg (fun z => e (h1.trans z))]; exact ⟨h1, h2⟩
theorem KV.put {kvs : List (κ × V)} {vs : List (κ × Value)} (r : KV kvs vs) (k : κ) {y : V} {u : Value} (ry : RelV y u) : KV (putK kvs k y) (stored vs k u) := by
  unfold putK stored
  rw [r.any k]
  by_cases e : (vs.any fun kv => decide (kv.1 = k)) = true
  · rw [if_pos e, if_pos e]; exact r.repl k ry
  · rw [if_neg e, if_neg e]; exact Paired.snoc r ⟨rfl, ry⟩
theorem KV.drop {kvs : List (κ × V)} {vs : List (κ × Value)} (r : KV kvs vs) (k : κ) : KV (dropK kvs k) (without vs k) := by
  unfold KV at r ⊢
  unfold dropK without
  induction r with
  | nil => exact .nil
  | @cons p q ps qs h t ih =>
    obtain ⟨h1, h2⟩ := h
    rw [List.filter_cons, List.filter_cons]
    by_cases e : p.1 = k
    · have a : ¬ decide (p.1 ≠ k) = true := by simp [e]
      have b : ¬ decide (q.1 ≠ k) = true := by simp [h1.symm.trans e]
      rw [if_neg a, if_neg b]; exact ih
    · have e' : ¬ q.1 = k := fun z => e (h1.trans z)
      have a : decide (p.1 ≠ k) = true := by simp [e]
      have b : decide (q.1 ≠ k) = true := by simp [e']
      rw [if_pos a, if_pos b]; exact .cons ⟨h1, h2⟩ ih
theorem KV.keys {kvs : List (κ × V)} {vs : List (κ × Value)} (r : KV kvs vs) : kvs.map (·.1) = vs.map (·.1) := by
  unfold KV at r
  induction r with
  | nil => rfl
  | cons h t ih => rw [List.map_cons, List.map_cons, ih, h.1]
theorem KV.length {kvs : List (κ × V)} {vs : List (κ × Value)} (r : KV kvs vs) : kvs.length = vs.length := Paired.length r
end
theorem kV_is {P : Program} {w : World} {k : Key} {u : Value} (r : RelV (kV k) u) : (mixKind P w).is k u = true := by
  cases k with
  | inl i => obtain ⟨t, e⟩ := (show ∃ t, u = Value.int i t from r); subst e; exact mixKind_int P w i t
  | inr x => obtain ⟨t, e⟩ := (show ∃ t, u = Value.str x t from r); subst e; exact mixKind_str P w x t
theorem items_are {P : Program} {w : World} : ∀ {ks : List Key} {us : List Value}, Vals (ks.map kV) us → ItemsAre (mixKind P w) ks us
  | [], _, r => by rw [List.map_nil] at r; cases r; exact .nil
  | k :: ks, _, r => by
    rw [List.map_cons] at r
    cases r with
    | cons h t => exact .cons (kV_is h) (items_are t)

abbrev KT (H : Hp) : List (List Key × V) → List (List Key × Addr × Value) → Prop := Paired fun p q => p.1 = q.1 ∧ H q.2.1 = some (.tup (p.1.map kV)) ∧ RelV p.2 q.2.2
theorem KT.val {H : Hp} {kvs : List (List Key × V)} {xs : List (List Key × Addr × Value)} (r : KT H kvs xs) (k : List Key) : RelO (valV kvs k) ((atKey xs k).map (·.2)) := by
  induction r with
  | nil => exact True.intro
  | @cons p q ps qs h t ih =>
    obtain ⟨h1, _, h2⟩ := h
    by_cases e : p.1 = k
    · have e' : q.1 = k := h1.symm.trans e
      have b : atKey (q :: qs) k = some q.2 := by simp [atKey, List.find?_cons, e']
      rw [valV_pos e, b]; exact h2
    · have e' : ¬ q.1 = k := fun z => e (h1.trans z)
      have b : atKey (q :: qs) k = atKey qs k := by simp [atKey, List.find?_cons, e']
      rw [valV_neg e, b]; exact ih
theorem KT.repl {H : Hp} {kvs : List (List Key × V)} {xs : List (List Key × Addr × Value)} (r : KT H kvs xs) (k : List Key) {y : V} {u : Value} (ry : RelV y u) :
    KT H (kvs.map fun kv => if kv.1 = k then (kv.1, y) else kv) (xs.map (putAt k u)) := by
  induction r with
  | nil => exact .nil
  | @cons p q ps qs h t ih =>
    rw [List.map_cons, List.map_cons]
    refine .cons ?_ ih
    obtain ⟨h1, h2, h3⟩ := h
    unfold putAt
    by_cases e : p.1 = k
    · rw [if_pos e, if_pos (h1.symm.trans e)]; exact ⟨h1, h2, ry⟩
    · rw [if_neg e, if_neg (fun z => e (h1.trans z))]; exact ⟨h1, h2, h3⟩
theorem KT.put {H : Hp} {kvs : List (List Key × V)} {xs : List (List Key × Addr × Value)} (r : KT H kvs xs) (k : List Key) {b : Addr} {y : V} {u : Value} (hb : H b = some (.tup (k.map kV))) (ry : RelV y u) :
    KT H (putK kvs k y) (storedH xs k b u) := by
  have e : (kvs.any fun kv => decide (kv.1 = k)) = (atKey xs k).isSome := by
    rw [valV_any, (r.val k).isSome_eq, Option.isSome_map]
  unfold putK storedH
  rw [e]
  by_cases q : (atKey xs k).isSome = true
  · rw [if_pos q, if_pos q]; exact r.repl k ry
  · rw [if_neg q, if_neg q]; exact Paired.snoc r ⟨rfl, hb, ry⟩
theorem KT.keeps {H H' : Hp} {kvs : List (List Key × V)} {xs : List (List Key × Addr × Value)} (r : KT H kvs xs) (ht : ∀ b ys, H b = some (.tup ys) → H' b = some (.tup ys)) : KT H' kvs xs :=
  Paired.mapP r fun _ _ z => ⟨z.1, ht _ _ z.2.1, z.2.2⟩

section
variable {P : Program} {w : World} {H : Hp} {h : Heap} {a : Addr}
theorem rd_of {u : HO} (ok : HOk P w H h) (e : Rd H a u) : ObjOk P w H h a u := e.ok ok
theorem dk_rd {kvs : List (Key × V)} (ok : HOk P w H h) (e : Rd H a (.dK kvs)) : kvs.length ≤ sizeLine ∧ (a == sysModules) = false ∧ ∃ vs, KV kvs vs ∧ h.DictOf (mixKind P w) a vs :=
  show ObjOk P w H h a (.dK kvs) from rd_of ok e
theorem dk_of {kvs : List (Key × V)} (ok : HOk P w H h) (e : H a = some (.dK kvs)) : kvs.length ≤ sizeLine ∧ (a == sysModules) = false ∧ ∃ vs, KV kvs vs ∧ h.DictOf (mixKind P w) a vs := dk_rd ok (.inl e)
theorem key_of {ks : List Key} (ok : HOk P w H h) (e : H a = some (.tup (ks.map kV))) : (tupleKind (mixKind P w)).is h ks a := by
  obtain ⟨_, its, r, o, h1, h2, n, h3⟩ := (show ObjOk P w H h a (.tup (ks.map kV)) from ok a _ e)
  exact ⟨o, its.toArray, n, h1, h2, h3, by simpa using items_are r⟩
theorem dt_rd {kvs : List (List Key × V)} (ok : HOk P w H h) (e : Rd H a (.dT kvs)) : kvs.length ≤ sizeLine ∧ (a == sysModules) = false ∧
    ∃ xs, KT H kvs xs ∧ h.DictOfH (tupleKind (mixKind P w)) a xs := by
  obtain ⟨z, y, xs, r, o, es, ep, h1, h2, h3, h4, h5⟩ := (show ObjOk P w H h a (.dT kvs) from rd_of ok e)
  refine ⟨z, y, xs, r, o, es, ep, h1, h2, h3, h4, fun x hx => ?_, h5⟩
  have all : ∀ {l : List (List Key × V)} {m : List (List Key × Addr × Value)}, KT H l m → ∀ x ∈ m, (tupleKind (mixKind P w)).is h x.1 x.2.1 := by
    intro l m q
    induction q with
    | nil => intro x hx; exact nomatch hx
    | @cons p q ps qs hq t ih =>
      intro x hx
      rcases List.mem_cons.mp hx with e | hx
      · subst e
        exact key_of ok (by rw [← hq.1]; exact hq.2.1)
      · exact ih x hx
  exact all r x hx
theorem dt_of {kvs : List (List Key × V)} (ok : HOk P w H h) (e : H a = some (.dT kvs)) : kvs.length ≤ sizeLine ∧ (a == sysModules) = false ∧
    ∃ xs, KT H kvs xs ∧ h.DictOfH (tupleKind (mixKind P w)) a xs := dt_rd ok (.inl e)
end
def DGet (H : Hp) (a : Addr) (y : V) (r : Option V) : Prop :=
  (∃ kvs k, Rd H a (.dK kvs) ∧ y = kV k ∧ r = valV kvs k) ∨ ∃ kvs k b, Rd H a (.dT kvs) ∧ y = .ref b ∧ H b = some (.tup (k.map kV)) ∧ r = valV kvs k
def DPut (H : Hp) (a : Addr) (y v : V) (H' : Hp) : Prop :=
  (∃ kvs k, H a = some (.dK kvs) ∧ y = kV k ∧ kvs.length < sizeLine ∧ H' = upd H a (.dK (putK kvs k v))) ∨
  ∃ kvs k b, H a = some (.dT kvs) ∧ y = .ref b ∧ H b = some (.tup (k.map kV)) ∧ kvs.length < sizeLine ∧ H' = upd H a (.dT (putK kvs k v))
theorem DGet.k {H : Hp} {a : Addr} {kvs : List (Key × V)} {k : Key} (e : H a = some (.dK kvs)) : DGet H a (kV k) (valV kvs k) := .inl ⟨kvs, k, .inl e, rfl, rfl⟩
theorem DGet.t {H : Hp} {a b : Addr} {kvs : List (List Key × V)} {k : List Key} (e : H a = some (.dT kvs)) (eb : H b = some (.tup (k.map kV))) : DGet H a (.ref b) (valV kvs k) := .inr ⟨kvs, k, b, .inl e, rfl, eb, rfl⟩
theorem DPut.k {H : Hp} {a : Addr} {kvs : List (Key × V)} {k : Key} {v : V} (e : H a = some (.dK kvs)) (hl : kvs.length < sizeLine) : DPut H a (kV k) v (upd H a (.dK (putK kvs k v))) := .inl ⟨kvs, k, e, rfl, hl, rfl⟩
theorem DPut.t {H : Hp} {a b : Addr} {kvs : List (List Key × V)} {k : List Key} {v : V} (e : H a = some (.dT kvs)) (eb : H b = some (.tup (k.map kV))) (hl : kvs.length < sizeLine) :
    DPut H a (.ref b) v (upd H a (.dT (putK kvs k v))) := .inr ⟨kvs, k, b, e, rfl, eb, hl, rfl⟩


section
variable {X : Cx} {pins : List (Addr × Obj)} {σ : St} {H : Hp} {s : Shared} {a : Addr} {y v : V} {u r : Value} {o : Option V} {A : Around} {E : Value → Shared → Prop}
theorem Inv.big (I : Inv X pins σ H s) : sysModules < s.heap.objs.size := by
  have h : mainGlobals < s.heap.objs.size := (I.mod.glob.keeps I.bk).lt
  exact Nat.lt_trans (by decide) h

theorem d_getItem {Q : Value → Shared → Prop} (hu : A.units + 1 < cLine) (I : Inv X pins σ H s) (g : DGet H a y (some v)) (ry : RelV y u) (h : ∀ w' s', Inv X pins σ H s' → RelV v w' → Q w' s') :
    wpAny (model X.prog X.w) A (getItem (.ref a) u) Q E s := by
  rcases g with ⟨kvs, k, e, ey, l⟩ | ⟨kvs, k, b, e, ey, eb, l⟩
  · subst ey
    obtain ⟨z, hd, vs, rel, dd⟩ := dk_rd I.hok e
    obtain ⟨w', hw, rw'⟩ := RelO.some_of (v := v) (o := valueAt vs k) (by rw [l]; exact rel.val k)
    exact wpAny_getItem_of (kV_is ry) dd.mapOf hw (h w' _ (I.tok _) rw')
  · subst ey
    cases (show u = Value.ref b from ry)
    obtain ⟨z, hd, xs, rel, dd⟩ := dt_rd I.hok e
    obtain ⟨w', hw, rw'⟩ := RelO.some_of (v := v) (o := (atKey xs k).map (·.2)) (by rw [l]; exact rel.val k)
    obtain ⟨p, hp, hp2⟩ := Option.map_eq_some_iff.mp hw
    refine wpAny_getItem_heap (tupleKind_room_in1 hu) (key_of I.hok eb) dd hp ?_
    rw [hp2]
    exact h w' _ (I.tok _) rw'
theorem d_notIn {Q : Value → Shared → Prop} (hu : A.units + 1 < cLine) (I : Inv X pins σ H s) (g : DGet H a y o) (ry : RelV y u) (h : ∀ s', Inv X pins σ H s' → Q (.bool (!o.isSome)) s') :
    wpAny (model X.prog X.w) A (compareOp .NotIn u (.ref a)) Q E s := by
  rcases g with ⟨kvs, k, e, ey, l⟩ | ⟨kvs, k, b, e, ey, eb, l⟩
  · subst ey
    obtain ⟨z, hd, vs, rel, dd⟩ := dk_rd I.hok e
    refine wpAny_notIn_of (kV_is ry) hd dd.mapOf ?_
    rw [← (rel.val k).isSome_eq, ← l]
    exact h _ (I.tok _)
  · subst ey
    cases (show u = Value.ref b from ry)
    obtain ⟨z, hd, xs, rel, dd⟩ := dt_rd I.hok e
    refine wpAny_notIn_heap (tupleKind_room_in1 hu) (key_of I.hok eb) hd dd ?_
    have q := (rel.val k).isSome_eq
    rw [Option.isSome_map] at q
    rw [← q, ← l]
    exact h _ (I.tok _)
theorem d_write {h' : Heap} {t' : Nat} {ob : HO} (I : Inv X pins σ H s) (mu : Mut (H a)) (hs : Heap.SameBut a s.heap h') (he : ∃ q, h'.get? a = some q) (new : ObjOk X.prog X.w (upd H a ob) h' a ob) :
    Inv X pins σ (upd H a ob) { s with heap := h', toks := t' } :=
  I.write (x := a) (e := a) mu (.inl rfl) (fun b q hb z => (hs.2 b hb).trans z) he new
theorem dk_new {P : Program} {w : World} {H' : Hp} {h' : Heap} {kvs : List (Key × V)} {vs : List (Key × Value)} (z : kvs.length ≤ sizeLine) (hd : (a == sysModules) = false) (rel : KV kvs vs) (dd : h'.DictOf (mixKind P w) a vs) :
    ObjOk P w H' h' a (.dK kvs) := ⟨z, hd, vs, rel, dd⟩
theorem d_setItem {H' : Hp} {Q : Unit → Shared → Prop} (hu : A.units + 1 < cLine) (I : Inv X pins σ H s) (g : DPut H a y v H') (ry : RelV y u) (rv : RelV v r) (h : ∀ s', Inv X pins σ H' s' → Q () s') :
    wpAny (model X.prog X.w) A (setItem (.ref a) u r) Q E s := by
  rcases g with ⟨kvs, k, e, ey, l, eH⟩ | ⟨kvs, k, b, e, ey, eb, l, eH⟩
  · subst ey eH
    obtain ⟨z, hd, vs, rel, dd⟩ := dk_of I.hok e
    have hz : vs.length ≤ sizeLine := by rw [← rel.length]; exact z
    have hl : (putK kvs k v).length ≤ sizeLine := by have := length_putK kvs k v; omega
    refine wpAny_setItem_pairs (hsz := hz) (kV_is ry) dd fun h' dd' hs => h _ ?_
    have he : ∃ q, h'.get? a = some q := let ⟨q, _, _, hq, _⟩ := dd'; ⟨q, hq⟩
    exact d_write I (by rw [e]; exact True.intro) hs he (dk_new hl hd (rel.put k rv) dd')
  · subst ey eH
    cases (show u = Value.ref b from ry)
    obtain ⟨z, hd, xs, rel, dd⟩ := dt_of I.hok e
    have hz : xs.length ≤ sizeLine := by rw [← Paired.length rel]; exact z
    have hl : (putK kvs k v).length ≤ sizeLine := by have := length_putK kvs k v; omega
    refine wpAny_setItem_heap (hsz := hz) (tupleKind_room_in1 hu) (key_of I.hok eb) dd fun h' dd' hs => h _ ?_
    obtain ⟨q, es, ep, hq, h2, h3, h4, _, h5⟩ := dd'
    refine d_write I (by rw [e]; exact True.intro) hs ⟨q, hq⟩ ⟨hl, hd, _, (rel.put k eb rv).keeps fun c ys ec => ?_, q, es, ep, hq, h2, h3, h4, h5⟩
    rw [upd_ne (ne_of ec e (fun z => nomatch z))]
    exact ec
end
section
variable {X : Cx} {pins : List (Addr × Obj)} {σ : St} {H : Hp} {s : Shared} {a : Addr} {kvs : List (Key × V)} {k : Key} {u : Value} {A : Around} {E : Value → Shared → Prop}
end
def NoSl (i : Expr) : Prop := ∀ ov iv, subscripted i false ov iv = operate [ov, iv] (getItem ov iv)
theorem subD_of {prog : Program} {w : World} {A : Around} {E : Value → Shared → Prop} {s : Shared} {env : Env} {value slice : Expr} {pos : Pos} {T id : String} {Q : Value → Shared → Prop}
    (hl : typeLookup (.type T) "__getitem__" = pure (some (.builtin id))) (hs : NoSl slice)
    (h : wpAny (model prog w) A (eval value env) (fun o s₁ => wpAny (model prog w) A (eval slice env) (fun i s₂ => s₂.TypeIs o T ∧ wpAny (model prog w) A (getItem o i) Q E s₂) E s₁) E s) :
    wpAny (model prog w) A (eval (.Subscript value slice pos) env) Q E s := by
  refine Subscript_ (wpAny_mono h (fun o s₁ h₁ => wpAny_mono h₁ (fun i s₂ h₂ => ?_) fun _ _ x => x) fun _ _ x => x)
  obtain ⟨hT, h₂⟩ := h₂
  unfold subscriptTail
  refine wpAny_bind ?_
  rw [getitemInPython_of_ne hT.not_modules]
  refine wpAny_bind (wpAny_specialOf hT hl ?_)
  have fin : wpAny (model prog w) A (subscripted slice false o i) (fun r s₃ => wpAny (model prog w) A (letTemporaryGo value o r >>= fun _ => pure r) Q E s₃) E s₂ := by
    rw [hs o i]
    exact wpAny_operating (wpAny_mono h₂ (fun r s₃ h₃ => wpAny_bind (wpAny_letTemporaryGo (wpAny_pure h₃))) fun _ _ x => x)
  first
    | exact wpAny_pure (wpAny_bind fin)
    | exact wpAny_bind (wpAny_pure (wpAny_bind fin))
    | exact wpAny_bind fin

theorem dict_typeIs {X : Cx} {pins : List (Addr × Obj)} {σ : St} {H : Hp} {s : Shared} {a : Addr} {y : V} {o : Option V} (I : Inv X pins σ H s) (g : DGet H a y o) : s.TypeIs (.ref a) "dict" := by
  rcases g with ⟨kvs, k, e, _, _⟩ | ⟨kvs, k, b, e, _, _, _⟩
  · obtain ⟨_, _, vs, _, dd⟩ := dk_rd I.hok e
    exact dd.typeIs
  · obtain ⟨_, _, xs, _, dd⟩ := dt_rd I.hok e
    exact dd.typeIs
def tDGet (td ty : TE) : TE := fun σ H Q => td σ H fun x H1 => ty σ H1 fun y H2 => ∃ a v, x = .ref a ∧ DGet H2 a y (some v) ∧ Q v H2
def sDPut (td ty tv : TE) : TS := fun D σ H => tv σ H fun v H1 => td σ H1 fun x H2 => ty σ H2 fun y H3 => ∃ a H4, x = .ref a ∧ DPut H3 a y v H4 ∧ D.nx σ H4
section
variable {X : Cx} {o i e value : Expr} {pos pos' tpos : Pos} {td ty tv : TE}
theorem pe_dget (hu : X.A.units + 1 < cLine) (ho : PE X o td) (hi : PE X i ty) (hs : NoSl i) : PE X (.Subscript o i pos) (tDGet td ty) := by
  intro pins s σ H Q I h
  refine subD_of PySem.F.slot_dict_getitem.lookup hs (thn (ho pins s σ H _ I h) fun u s1 ⟨x, H1, I1, rx, q1⟩ => thn (hi pins s1 σ H1 _ I1 q1) fun iv s2 ⟨y, H2, I2, ry, a, v, ex, g, q2⟩ => ?_)
  subst ex
  obtain rfl : u = Value.ref a := rx
  exact ⟨dict_typeIs I2 g, d_getItem hu I2 g ry fun w' s3 I3 rw' => ⟨v, H2, I3, rw', q2⟩⟩
theorem ps_dput (hu : X.A.units + 1 < cLine) (ho : PE X o td) (hi : PE X i ty) (hv : PE X value tv) (hs : swapsWith value (some (.Subscript o i pos')) pos.line X.env = pure false) :
    PS X (.Assign [.Subscript o i pos'] value pos) (sDPut td ty tv) := by
  intro pins s σ H D I h
  refine wpAny_Assign_Subscript (thn (hv pins s σ H _ I h) fun r s1 ⟨v, H1, I1, rv, q1⟩ => thn (ho pins s1 σ H1 _ I1 q1) fun u s2 ⟨x, H2, I2, rx, q2⟩ => thn (hi pins s2 σ H2 _ I2 q2) fun iv s3 ⟨y, H3, I3, ry, a, H4, ex, g, q3⟩ => ?_) hs
  subst ex
  obtain rfl : u = Value.ref a := rx
  exact d_setItem hu I3 g ry rv fun s4 I4 => ⟨σ, H4, I4, q3⟩
end
theorem dk_empty {P : Program} {w : World} {H : Hp} (h : Heap) (hb : sysModules < h.objs.size) : ObjOk P w H (h.push { cls := .type "dict", data := .dict #[] }) h.objs.size (.dK []) :=
  ⟨Nat.zero_le _, beq_eq_false_iff_ne.mpr (Ne.symm (Nat.ne_of_lt hb)), [], .nil, Heap.DictOf.new h⟩
def tDNewK : TE := fun _ H Q => ∀ p, H p = none → Q (.ref p) (upd H p (.dK []))
section
variable {X : Cx} {pos : Pos}
theorem pe_dnewK : PE X (.Dict [] [] pos) tDNewK := fun pins s σ H Q I h =>
  wpAny_Dict_empty ⟨.ref s.heap.objs.size, _, I.laid (a := s.heap.objs.size) (o := .dK []) (t' := s.toks) (fun _ _ q => Heap.get?_push_of_some _ q) (Nat.le_refl _) (dk_empty s.heap I.big), rfl, h _ (I.hok.fresh (Nat.le_refl _))⟩
end
section
variable {X : Cx} {pins : List (Addr × Obj)} {σ : St} {H : Hp} {s : Shared} {a : Addr} {y d : V} {u r : Value} {o : Option V} {A : Around} {E : Value → Shared → Prop}
end
section
variable {X : Cx} {o e f : Expr} {apos cpos : Pos} {td ty tx : TE}
end
section
variable {X : Cx} {pins : List (Addr × Obj)} {σ : St} {H : Hp} {s : Shared} {a : Addr} {kvs : List (Key × V)} {A : Around} {E : Value → Shared → Prop}
end
section
variable {X : Cx} {pins : List (Addr × Obj)} {σ : St} {H : Hp} {s : Shared} {a : Addr} {y : V} {u : Value} {A : Around} {E : Value → Shared → Prop}
end
end L2
namespace L2
open PySem PySem.Spec PyProof.Rows
section
variable {κ : Type} [DecidableEq κ]
end
end L2
set_option Elab.async false
set_option linter.all false
set_option maxRecDepth 100000
set_option maxHeartbeats 5000000
namespace L2
open PySem PySem.Spec PyProof.Rows PySem.SeqAt
theorem hu1 {A : Around} {k : Nat} (hr : Room k A) : A.units + 1 < cLine := by have := hr.un; omega
section
variable {X : Cx}
theorem op_dnotin (hu : X.A.units + 1 < cLine) : OpR X (compareOp .NotIn) (fun y x H Q => ∃ a o, x = .ref a ∧ DGet H a y o ∧ Q (.bl (!o.isSome)) H) := by
  intro pins s σ H y x iv u Q I ry rx h
  obtain ⟨a, ov, ex, g, q⟩ := h
  subst ex
  obtain rfl : u = Value.ref a := rx
  exact d_notIn hu I g ry fun s3 I3 => ⟨.bl (!ov.isSome), H, I3, rfl, q⟩
end
abbrev kI (i : Int) : Key := .inl i
abbrev k2 (p h : Int) : List Key := [.inl p, .inl h]
theorem DGet.p {H : Hp} {a b : Addr} {kvs : List (List Key × V)} {p h : Int} (e : H a = some (.dT kvs)) (eb : H b = some (.tup [.int p, .int h])) : DGet H a (.ref b) (valV kvs (k2 p h)) := DGet.t (k := k2 p h) e eb
theorem DPut.p {H : Hp} {a b : Addr} {kvs : List (List Key × V)} {p h : Int} {v : V} (e : H a = some (.dT kvs)) (eb : H b = some (.tup [.int p, .int h])) (hl : kvs.length < sizeLine) : DPut H a (.ref b) v (upd H a (.dT (putK kvs (k2 p h) v))) := DPut.t (k := k2 p h) e eb hl
theorem DGet.i {H : Hp} {a : Addr} {kvs : List (Key × V)} {i : Int} (e : H a = some (.dK kvs)) : DGet H a (.int i) (valV kvs (kI i)) := DGet.k (k := kI i) e
theorem DPut.i {H : Hp} {a : Addr} {kvs : List (Key × V)} {i : Int} {v : V} (e : H a = some (.dK kvs)) (hl : kvs.length < sizeLine) : DPut H a (.int i) v (upd H a (.dK (putK kvs (kI i) v))) := DPut.k (k := kI i) e hl
end L2
set_option Elab.async false
set_option linter.all false
set_option maxRecDepth 100000
set_option maxHeartbeats 5000000
namespace L2
open PySem PySem.Spec PyProof.Rows PySem.SeqAt
theorem vals_bl : ∀ {bs : List Bool} {its : List Value}, Vals (bs.map V.bl) its → its = bs.map Value.bool
  | [], _, .nil => rfl
  | b :: r, _, .cons e rs => by
    have e' : _ = Value.bool b := e
    rw [List.map_cons, ← vals_bl rs, ← e']
theorem range_all' (bs : List Bool) : ((List.range bs.length).all fun i => (bs[i]?).getD true) = bs.all id := by
  rw [Bool.eq_iff_iff, List.all_eq_true, List.all_eq_true]
  constructor
  · intro h b hb
    obtain ⟨i, hi, e⟩ := List.getElem_of_mem hb
    have := h i (List.mem_range.mpr hi)
    simp only [List.getElem?_eq_getElem hi, Option.getD_some, e] at this
    exact this
  · intro h i hi
    have hi' := List.mem_range.mp hi
    simp only [List.getElem?_eq_getElem hi', Option.getD_some]
    exact h _ (List.getElem_mem hi')
theorem kept_it {s : Shared} {h' : Heap} {o : Obj} (hk : ∀ b x, b ∉ [s.heap.objs.size] → (s.heap.push o).get? b = some x → h'.get? b = some x) : ∀ b x, s.heap.get? b = some x → h'.get? b = some x :=
  fun b x e => hk b x (fun hm => by rw [List.mem_singleton.mp hm] at e; exact Nat.lt_irrefl _ (Heap.lt_size e)) (Heap.get?_push_of_some _ e)
section
variable {X : Cx}
theorem call_allB (hc : X.calm = true) : CallR X (.builtin "all") (fun xs H Q => ∃ (a : Addr) (bs : List Bool), xs = [.ref a] ∧ SqL X.K H a (bs.map V.bl) ∧ Q (.bl (bs.all id)) H) := by
  intro pins s σ H xs us Q I r h
  obtain ⟨a, bs, rfl, hl, q⟩ := h
  obtain ⟨u, rfl, ru⟩ := vals1 r
  cases ru
  obtain ⟨its, rv, pl, _⟩ := I.list hl
  have ei := vals_bl rv
  subst ei
  have hL := pl.isList
  have hlt : a < s.heap.objs.size := by obtain ⟨_, e, _⟩ := hL; exact Heap.lt_size e
  refine call_all_walk (wpAny_pyIter_list hL ?_)
  refine ⟨s.heap.objs.size, [s.heap.objs.size, a], [s.heap.objs.size], (bs.map Value.bool).toArray.size, _, _, fun i => (bs[i]?).getD true, rfl, Walks.list (A := X.A.in1) (I.ok.hd hc) _ a (Nat.ne_of_lt hlt) (bs.map Value.bool).toArray,
    ⟨⟨_, Heap.get?_push_size _ rfl, rfl, rfl⟩, hL.push _⟩, fun i v s' Q' E' hP hQ => ?_, fun h' tk hk => ?_⟩
  · have hP' : (bs.map Value.bool)[i]? = some v := by simpa using hP
    rw [List.getElem?_map] at hP'
    cases e : bs[i]? with
    | none => rw [e] at hP'; cases hP'
    | some b =>
      rw [e] at hP'
      cases hP'
      simp only [e, Option.getD_some] at hQ
      exact wpAny_truthy_bool hQ
  · have e : ((List.range (bs.map Value.bool).toArray.size).all fun i => (bs[i]?).getD true) = bs.all id := by
      rw [List.size_toArray, List.length_map]; exact range_all' bs
    rw [e]
    exact ⟨.bl _, H, I.kept (t' := tk) (kept_it hk), rfl, q⟩
end
end L2
set_option Elab.async false
set_option linter.all false
set_option maxRecDepth 100000
set_option maxHeartbeats 5000000
namespace L2
open PySem PySem.Spec PyProof.Rows PySem.SeqAt
theorem sizeN (n : Nat) : Builtin.Range.rangeSize 0 (n : Int) 1 = (n : Nat) := by
  unfold Builtin.Range.rangeSize
  rw [if_pos (by decide)]
  split <;> omega
theorem smallN {i k : Int} {n : Nat} (hi : i = 0) (hk : k = 1) (hn : n ≤ 1000000) : Builtin.Range.small i (n : Int) k = true := by
  have q5 : 0 < k := by omega
  have c : Builtin.Range.rangeSize i (n : Int) k = (n : Nat) := by rw [hi, hk]; exact sizeN n
  unfold Builtin.Range.small
  rw [c]
  simp only [Builtin.Range.rangeFitsLong, Bool.and_eq_true, Bool.or_eq_true, decide_eq_true_eq, beq_iff_eq, q5, if_true, gt_iff_lt]
  omega
section
variable {X : Cx}
def tLR1 (ta : TA) : TE := fun σ H Q => ta σ H fun vs H1 => ∃ n : Nat, vs = [.int n] ∧ n ≤ 1000000 ∧ ∀ l, H1 l = none → Q (.ref l) (upd H1 l (.lst (((List.range n).map fun (i : Nat) => (i : Int)).map V.int)))
theorem pe_lrng1 {a : Expr} {ta : TA} {p p2 pos pos2 : Pos} (hcm : X.calm = true) (hgl : Gl X "list") (hml : X.mg "list" = none) (hg : Gl X "range") (hm : X.mg "range" = none) (ha : PA X [a] ta)
    (hs : starEach [a] X.env = [(false, eval a X.env)] := by rfl)
    (he2 : starEach [.Call (.Name "range" p2) [a] [] pos2] X.env = (false, eval (.Call (.Name "range" p2) [a] [] pos2) X.env) :: starEach [] X.env := by rfl) :
    PE X (.Call (.Name "list" p) [.Call (.Name "range" p2) [a] [] pos2] [] pos) (tLR1 ta) := by
  intro pins s σ H Q I h
  refine wpAny_Call_Name_kw (ld_blt I hgl hml bi_list ?_)
  refine PyProof.Rows.callWith_type1 ?_ he2 rfl
  rw [he2]
  show wpAny _ _ (spliced ((false, eval (.Call (.Name "range" p2) [a] [] pos2) X.env) :: backTo pos (starEach [] X.env))) _ _ s
  refine Calls.spliced_cons ?_
  refine Call_ (ld_blt I hg hm boot_range (PyProof.Rows.callWith_type1 (thn (ha pos2 pins s σ H _ I h) fun us s1 ⟨vs, H1, I1, r1, q1⟩ => ?_) hs rfl))
  obtain ⟨n, e, hn, q⟩ := q1
  subst e
  cases r1 with
  | cons r rr =>
    cases rr
    obtain ⟨t, rfl⟩ := r
    refine call_range_1 ?_
    have sm : Builtin.Range.small 0 (n : Int) 1 = true := smallN rfl rfl hn
    refine Calls.spliced_nil ?_
    refine call_list_range (n := n) ?_ (IsRange.new ..) sm (sizeN n) (by omega) fun h' tk acc' c' kp e items => ?_
    · exact (I1.kept (t' := s1.toks) (fun b o e => e)).ok.hd hcm
    have vals : Vals (((List.range n).map fun (i : Nat) => (i : Int)).map V.int) acc'.toList := by
      rw [List.map_map]
      refine vals_of_items (by rw [Array.length_toList]; exact items.1) fun m v hm => ?_
      have := items.2 m v (by rw [← Array.getElem?_toList]; exact hm)
      obtain ⟨t, rfl⟩ := this
      exact ⟨t, by simp⟩
    have hz : (((List.range n).map fun (i : Nat) => (i : Int)).map V.int).length ≤ sizeLine := by
      rw [List.length_map, List.length_map, List.length_range]; exact Nat.le_trans hn (by decide)
    have I2 : Inv X pins σ H1 { s1 with heap := s1.heap.push { cls := .type "range", data := .fields #[.int 0 s1.toks, .int (n : Int) t, .int 1 (s1.toks + 1)] }, toks := s1.toks + 1 + 1 } := I1.kept fun b o e => Heap.get?_push_of_some _ e
    refine ⟨.ref _, _, I2.laid (t' := tk) kp (Nat.le_refl _) (show ObjOk X.prog X.w _ h' _ (.lst (((List.range n).map fun (i : Nat) => (i : Int)).map V.int)) from ⟨hz, acc'.toList, c', vals, by simpa using e⟩), rfl, q _ (I2.hok.fresh (Nat.le_refl _))⟩
end
end L2
set_option Elab.async false
set_option linter.all false
set_option maxRecDepth 100000
set_option maxHeartbeats 5000000
namespace L2
open PySem PySem.Spec PyProof.Rows PySem.SeqAt
theorem Paired.takeP {α β : Type} {F : α → β → Prop} : ∀ {a : List α} {b : List β} (k : Nat), Paired F a b → Paired F (a.take k) (b.take k)
  | _, _, 0, _ => by simp; exact .nil
  | _, _, _ + 1, .nil => .nil
  | _, _, k + 1, .cons h t => .cons h (Paired.takeP k t)
theorem Paired.dropP {α β : Type} {F : α → β → Prop} : ∀ {a : List α} {b : List β} (k : Nat), Paired F a b → Paired F (a.drop k) (b.drop k)
  | _, _, 0, h => h
  | _, _, _ + 1, .nil => .nil
  | _, _, k + 1, .cons _ t => Paired.dropP k t
theorem Paired.appP {α β : Type} {F : α → β → Prop} : ∀ {a c : List α} {b d : List β}, Paired F a b → Paired F c d → Paired F (a ++ c) (b ++ d)
  | _, _, _, _, .nil, h => h
  | _, _, _, _, .cons h t, g => .cons h (Paired.appP t g)
section
variable {X : Cx}
end
abbrev d3 (t : Int × Int × Int) : PyData := .tuple [.int t.1, .int t.2.1, .int t.2.2]
theorem rd_trs {K : PySem.W.Frag} {H : Hp} : ∀ {as : List Addr} {ts : List (Int × Int × Int)}, Paired (fun a (x : Int × Int × Int) => H a = some (.tup [.int x.1, .int x.2.1, .int x.2.2])) as ts → RdDs K H (as.map V.ref) (ts.map d3)
  | _, _, .nil => .nil
  | _, _, .cons h t => .cons (.tup (SqT.of h) (.cons (.int _) (.cons (.int _) (.cons (.int _) .nil)))) (rd_trs t)
theorem lay_trs : ∀ ts : List (Int × Int × Int), PyData.canLayAll0 (ts.map d3) = true
  | [] => by simp [PyData.canLayAll0]
  | t :: r => by simp [PyData.canLayAll0, PyData.canLay0, lay_trs r]
theorem dep_trs : ∀ ts : List (Int × Int × Int), PyData.depthAll (ts.map d3) ≤ 2
  | [] => by simp [PyData.depthAll]
  | t :: r => by
    have := dep_trs r
    simp only [List.map_cons, PyData.depthAll, PyData.depth]
    omega
theorem shp_trs (ts : List (Int × Int × Int)) : shaped (.list (ts.map d3)) = true := by
  have h1 := dep_trs ts
  unfold shaped
  rw [Bool.and_eq_true]
  exact ⟨by simp only [PyData.canLay0]; exact lay_trs ts, decide_eq_true (by simp only [PyData.depth]; omega)⟩
theorem mix_trs : ∀ ts : List (Int × Int × Int), noMixAll (ts.map d3) (ts.map d3) = true
  | [] => by simp [noMixAll]
  | t :: r => by simp [noMixAll, noMix, mix_trs r]
theorem sam_trs : ∀ ts : List (Int × Int × Int), PySem.Spec.sameAll (ts.map d3) (ts.map d3) = true
  | [] => by simp [PySem.Spec.sameAll]
  | t :: r => by simp [PySem.Spec.sameAll, PySem.Spec.same, sam_trs r]
theorem neTr_of {K : PySem.W.Frag} {H : Hp} {a b : Addr} {ts : List (Int × Int × Int)} {Q : VK} (h1 : TrAt H a ts) (h2 : TrAt H b ts) (q : Q (.bl false) H) : rNeD K (.ref a) (.ref b) H Q := by
  obtain ⟨as, e1, p1⟩ := h1
  obtain ⟨bs, e2, p2⟩ := h2
  exact ⟨_, _, .lst (SqL.of e1) (rd_trs p1), .lst (SqL.of e2) (rd_trs p2), shp_trs ts, shp_trs ts, by simp only [noMix]; exact mix_trs ts, by simp only [same]; rw [sam_trs]; exact q⟩
end L2
set_option Elab.async false
set_option linter.all false
set_option maxRecDepth 100000
set_option maxHeartbeats 5000000
namespace L2
open PySem PySem.Spec PyProof.Rows
def Xat (h : Heap) (e : Addr) (own : List Addr) (cls : Value) : Prop :=
  ∃ oe vs, h.get? e = some oe ∧ oe.cls = cls ∧ oe.dict = none ∧ oe.data = .fields vs ∧
    ((vs[1]? = some .none ∧ own = [e]) ∨ ∃ T oT ts, vs[1]? = some (.ref T) ∧ own = [e, T] ∧ T ≠ e ∧ h.get? T = some oT ∧ oT.data = .fields ts ∧ ts[3]? = some .none)
def Trd (h : Heap) (e T : Addr) (cls : Value) : Prop :=
  ∃ oe vs oT ts, h.get? e = some oe ∧ oe.cls = cls ∧ oe.dict = none ∧ oe.data = .fields vs ∧ vs[1]? = some (.ref T) ∧ T ≠ e ∧ h.get? T = some oT ∧ oT.data = .fields ts ∧ ts[3]? = some .none
theorem Trd.xat {h : Heap} {e T : Addr} {cls : Value} (x : Trd h e T cls) : Xat h e [e, T] cls := by
  obtain ⟨oe, vs, oT, ts, a, b, c, d, f, g, i, j, k⟩ := x
  exact ⟨oe, vs, a, b, c, d, .inr ⟨T, oT, ts, f, rfl, g, i, j, k⟩⟩
structure Pas (fs own : List Addr) (h h' : Heap) : Prop where
  keep : ∀ b o, h.get? b = some o → b ∉ fs → b ∉ own → h'.get? b = some o
  slot : ∀ b o, h.get? b = some o → b ∈ fs → ∃ sl, h'.get? b = some { o with slots := sl }
section
variable {M : Model} {A : Around} {E : Value → Shared → Prop} {s : Shared} {env : Env} {outer : List Env} {L e : Addr} {base : Heap}
theorem dict_mapF (o : Obj) (f : Array Value → Array Value) : (o.mapFields f).dict = o.dict := by
  obtain ⟨c, d, dt, sl⟩ := o
  cases dt <;> rfl
theorem entry_land {oe : Obj} {vs : Array Value} {head : Value} {hadNext : Bool} {Q : Unit → Shared → Prop}
    (hfr : A.frames = some (env :: outer)) (hl : s.heap.FunFrames base (env :: outer)) (hf : env.frame = some L) (he : s.heap.get? e = some oe) (hd : oe.data = .fields vs) (hsz : 1 < vs.size)
    (k : ∀ h' T, Pas (frs (env :: outer)) [e] s.heap h' → s.heap.get? T = none → Trd h' e T oe.cls → Q () { s with heap := h' }) (hdi : oe.dict = none) :
    wpAny M A (do
      let fr ← frameOf env
      let pl ← entryPlaceOf L hadNext
      let tb ← EntryCells.newEntry head fr .none (rawInt L) .none pl
      setField (.ref e) 1 tb) (fun _ s' => wpAny M A (setFlight (.ref e) none) Q E s') E s := by
  have nf : e ∉ frs (env :: outer) := fun hm => by
    obtain ⟨_, o, ho, hn⟩ := hl.mem hm
    rw [he] at ho
    cases ho
    exact hn vs hd
  refine wpAny_bind (wpAny_frameOf_fun hfr hl hf fun h1 x1 => ?_)
  refine wpAny_bind (wpAny_entryPlaceOf fun pl hpl => ?_)
  unfold EntryCells.newEntry newFields
  refine wpAny_bind (wpAny_newObj_type ?_ (hpl.sizeOk5 _ _ _ _ _))
  have e1 : h1.get? e = some oe := (x1.2.1 e nf).trans he
  generalize hto : ({ cls := .type "traceback", dict := none, data := .fields ([head, .ref L, .none, rawInt L, .none] ++ (if pl.isEmpty then List.replicate 6 Value.none else pl)).toArray } : Obj) = tob
  obtain ⟨ts, hts, ht3⟩ : ∃ ts : Array Value, tob.data = .fields ts ∧ 3 < ts.size := ⟨_, by rw [← hto], by simp only [List.size_toArray, List.length_append, List.length_cons, List.length_nil]; omega⟩
  have e2 : (h1.push tob).get? e = some oe := Heap.get?_push_of_some _ e1
  have ne : h1.objs.size ≠ e := fun z => Nat.lt_irrefl _ (z ▸ Heap.lt_size e1)
  refine wpAny_setField e2 hd hsz ?_
  have d3 := Obj.data_mapFields hd (·.setIfInBounds 1 (Value.ref h1.objs.size))
  have e3 := Heap.get?_update_self (Obj.mapFields (·.setIfInBounds 1 (Value.ref h1.objs.size))) e2 (Obj.isFreed_of_fields d3)
  have tfr : tob.isFreed = false := Obj.isFreed_of_fields hts
  have t3 : ((h1.push tob).update e (Obj.mapFields (·.setIfInBounds 1 (Value.ref h1.objs.size)))).get? h1.objs.size = some tob :=
    (Heap.get?_update_other (h1.push tob) _ (Ne.symm ne)).trans (Heap.get?_push_size h1 tfr)
  unfold setFlight
  refine wpAny_bind (wpAny_field e3 d3 (x := .ref h1.objs.size) (by simp [hsz]) ?_)
  rw [if_pos (show (Value.ref h1.objs.size != Value.none) = true from by simp)]
  refine wpAny_setField t3 hts ht3 ?_
  have d4 := Obj.data_mapFields hts (·.setIfInBounds 3 ((none : Option Addr).elim Value.none fun f => rawInt f))
  have t4 := Heap.get?_update_self (Obj.mapFields (·.setIfInBounds 3 ((none : Option Addr).elim Value.none fun f => rawInt f))) t3 (Obj.isFreed_of_fields d4)
  have old : ∀ b o, b ≠ e → h1.get? b = some o → (((h1.push tob).update e (Obj.mapFields (·.setIfInBounds 1 (Value.ref h1.objs.size)))).update h1.objs.size (Obj.mapFields (·.setIfInBounds 3 ((none : Option Addr).elim Value.none fun f => rawInt f)))).get? b = some o := fun b o hb q => by
    have hT : h1.objs.size ≠ b := fun z => Nat.lt_irrefl _ (z ▸ Heap.lt_size q)
    rw [Heap.get?_update_other _ _ hT, Heap.get?_update_other _ _ (Ne.symm hb)]
    exact Heap.get?_push_of_some _ q
  refine k _ h1.objs.size ⟨fun b o q nb no => old b o (fun z => no (by simp [z])) ((x1.2.1 b nb).trans q), fun b o q hb => ?_⟩ (Heap.get?_none_of_le (by rw [x1.1]; exact Nat.le_refl _)) ?_
  · obtain ⟨sl, q1⟩ := x1.2.2 b o q
    exact ⟨sl, old b _ (fun z => nf (z ▸ hb)) q1⟩
  · refine ⟨_, _, _, _, (Heap.get?_update_other _ _ ne).trans e3, Obj.cls_mapFields _ _, (dict_mapF _ _).trans hdi, d3, by simp [hsz], ne, t4, d4, by simp [ht3]⟩
theorem noteland {own : List Addr} {cls : Value} {Q : Unit → Shared → Prop} (hfr : A.frames = some (env :: outer)) (hl : s.heap.FunFrames base (env :: outer)) (hf : env.frame = some L) (x : Xat s.heap e own cls)
    (k : ∀ h' T, Pas (frs (env :: outer)) own s.heap h' → (T ∈ own ∨ s.heap.get? T = none) → Trd h' e T cls → Q () { s with heap := h' }) :
    wpAny M A (noteFrame (.ref e) env) (fun _ s2 => wpAny M A (setFlight (.ref e) none) Q E s2) E s := by
  obtain ⟨oe, vs, he, rfl, hdi, hd, ⟨h1, rfl⟩ | ⟨T, oT, ts, h1, rfl, hTe, hT, hdT, h3⟩⟩ := x
  · unfold noteFrame
    simp only [hf]
    refine wpAny_bind (wpAny_field he hd h1 ?_)
    rw [if_neg (by decide)]
    exact entry_land hfr hl hf he hd (Array.getElem?_eq_some_iff.mp h1).1 (fun h' T p n t => k h' T p (.inr n) t) hdi
  · unfold noteFrame
    simp only [hf]
    refine wpAny_bind (wpAny_field he hd h1 ?_)
    rw [if_pos (show (Value.ref T != Value.none) = true from by simp)]
    refine wpAny_bind (wpAny_field hT hdT h3 ?_)
    rw [if_neg (show ¬ ((Value.none == rawInt L) = true) from by simp [rawInt])]
    refine wpAny_bind (wpAny_setField hT hdT (Array.getElem?_eq_some_iff.mp h3).1 ?_)
    have oth : ∀ b, b ≠ T → (s.heap.update T (Obj.mapFields (·.setIfInBounds 3 Value.none))).get? b = s.heap.get? b := fun b hb => Heap.get?_update_other _ _ (Ne.symm hb)
    have dT := Obj.data_mapFields hdT (·.setIfInBounds 3 Value.none)
    have gT := Heap.get?_update_self (Obj.mapFields (·.setIfInBounds 3 Value.none)) hT (Obj.isFreed_of_fields dT)
    have hnT : ∀ b o, s.heap.get? b = some o → (∀ ws, o.data ≠ .fields ws) → b ≠ T := fun b o hb hn z => by
      rw [z, hT] at hb
      cases hb
      exact hn ts hdT
    refine entry_land (hl.of_keeps fun b o hb hn => ⟨o, (oth b (hnT b o hb hn)).trans hb, rfl⟩) hf ((oth e (Ne.symm hTe)).trans he) hd (Array.getElem?_eq_some_iff.mp h1).1 (fun h' T' p n t => k h' T' ⟨fun b o q nb no => ?_, fun b o q hb => ?_⟩ (.inr ?_) t) hdi (hfr := hfr)
    · have hb : b ≠ e ∧ b ≠ T := ⟨fun z => no (by simp [z]), fun z => no (by simp [z])⟩
      exact p.keep b o ((oth b hb.2).trans q) nb (by simpa using hb.1)
    · obtain ⟨_, o', ho', hn'⟩ := hl.mem hb
      rw [q] at ho'
      cases ho'
      exact p.slot b o ((oth b (hnT b o q hn')).trans q) hb
    · by_cases z : T' = T
      · rw [z, gT] at n; cases n
      · rw [oth T' z] at n; exact n
theorem land_again {T : Addr} {cls : Value} {Q : Unit → Shared → Prop} (x : Trd s.heap e T cls) (k : ∀ h', (∀ b o, b ≠ T → s.heap.get? b = some o → h'.get? b = some o) → Trd h' e T cls → Q () { s with heap := h' }) :
    wpAny M A (setFlight (.ref e) none) Q E s := by
  obtain ⟨oe, vs, oT, ts, he, rfl, hdi, hd, h1, hTe, hT, hdT, h3⟩ := x
  unfold setFlight
  refine wpAny_bind (wpAny_field he hd h1 ?_)
  rw [if_pos (show (Value.ref T != Value.none) = true from by simp)]
  have l3 : 3 < ts.size := (Array.getElem?_eq_some_iff.mp h3).1
  refine wpAny_setField hT hdT l3 (k _ (fun b o hb q => (Heap.get?_update_other _ _ (Ne.symm hb)).trans q) ?_)
  have dT := Obj.data_mapFields hdT (·.setIfInBounds 3 ((none : Option Addr).elim Value.none fun f => rawInt f))
  exact ⟨oe, vs, _, _, (Heap.get?_update_other _ _ hTe).trans he, rfl, hdi, hd, h1, hTe, Heap.get?_update_self _ hT (Obj.isFreed_of_fields dT), dT, by simp [l3]⟩
end
theorem ObjOk.ex {P : Program} {w : World} {H : Hp} {h : Heap} {a : Addr} {o : HO} (x : ObjOk P w H h a o) : ∃ ob, h.get? a = some ob := by
  cases o with
  | lst xs => obtain ⟨_, _, _, _, e⟩ := x; exact ⟨_, e⟩
  | tup xs => obtain ⟨_, _, _, p⟩ := x; obtain ⟨ob, e, _⟩ := p; exact ⟨ob, e⟩
  | dK kvs => obtain ⟨_, _, _, _, o, _, _, e, _⟩ := x; exact ⟨_, e⟩
  | dT kvs => obtain ⟨_, _, _, _, o, _, _, e, _⟩ := x; exact ⟨_, e⟩
  | set S n => obtain ⟨o, _, _, _, e, _⟩ := x; exact ⟨_, e⟩
  | ins C dx fs => obtain ⟨_, _, _, e, _⟩ := x; exact ⟨_, e⟩
  | own y => obtain ⟨_, e⟩ := x; exact ⟨_, e⟩
  | xd fs => obtain ⟨_, ⟨_, _, _, e, _⟩, _⟩ := x; exact ⟨_, e⟩
  | rng lo hi => obtain ⟨_, _, _, e⟩ := x; exact ⟨_, e⟩
  | frz ob u => obtain ⟨e, _⟩ := x; exact ⟨_, e⟩
  | tbl ps => exact ⟨_, (show h.get? a = some _ from x)⟩
  | met f y => exact ⟨_, (show h.get? a = some _ from x)⟩
  | ext φ => obtain ⟨_, e, _⟩ := x; exact e
theorem HOk.free {P : Program} {w : World} {H : Hp} {h : Heap} {a : Addr} (x : HOk P w H h) (n : h.get? a = none) : H a = none := by
  cases q : H a with
  | none => rfl
  | some o =>
    obtain ⟨ob, e⟩ := (x a o q).ex
    rw [n] at e
    cases e
structure OwnA (X : Cx) (pins : List (Addr × Obj)) (H : Hp) (b : Addr) : Prop where
  new : X.s₀.heap.get? b = none
  un : H b = none
  loc : b ≠ X.env.locals
  cel : ∀ x c, X.env.cells.lookup x = some c → c ≠ b
  pin : ∀ p ∈ X.pn ++ pins, p.1 ≠ b
section
variable {X : Cx} {pins : List (Addr × Obj)} {σ : St} {H : Hp} {s : Shared} {h' : Heap} {own : List Addr}
theorem Inv.pas (I : Inv X pins σ H s) (p : Pas (frs X.stack) own s.heap h') (ho : ∀ b ∈ own, OwnA X pins H b) : Inv X pins σ H { s with heap := h' } := by
  have neL : ∀ b o, X.s₀.heap.get? b = some o → b ≠ X.env.locals := fun b o e => Nat.ne_of_lt (Nat.lt_of_lt_of_le (Heap.lt_size e) I.ok.above)
  have neO : ∀ b o, X.s₀.heap.get? b = some o → b ∉ own := fun b o e z => by rw [(ho b z).new] at e; cases e
  have any : ∀ b o, s.heap.get? b = some o → b ∉ own → ∃ sl, h'.get? b = some { o with slots := sl } := fun b o e n => by
    by_cases z : b ∈ frs X.stack
    · exact p.slot b o e z
    · exact ⟨o.slots, p.keep b o e z n⟩
  have cellK : ∀ x c, X.env.cells.lookup x = some c → ∀ v, s.heap.IsCell c v → h'.IsCell c v := fun x c e v ⟨o, q, hd⟩ => by
    obtain ⟨sl, q'⟩ := any c o q fun z => (ho c z).cel x c e rfl
    exact ⟨_, q', hd⟩
  refine ⟨I.ok, I.os, I.bare, ⟨fun b o e n hb hx => ?_, fun b o e n hb hx => ?_, I.base.free, fun b o e hx => ?_, I.base.tups, I.base.frzs, I.base.tbls⟩, ?_, fun x c e => ?_, I.free, I.freeC, fun q hq => ?_, fun a o e => ?_, I.len⟩
  · refine p.keep b o (I.base.keep b o e n hb hx) (fun z => ?_) (neO b o e)
    rcases List.mem_cons.mp (I.stkSub b z) with y | y
    · exact neL b o e y
    · exact hb y
  · obtain ⟨sl, q⟩ := I.base.slot b o e n hb hx
    obtain ⟨sl', q'⟩ := any b _ q (neO b o e)
    exact ⟨sl', q'⟩
  · obtain ⟨o', q⟩ := I.base.there b o e hx
    obtain ⟨sl, q'⟩ := any b o' q (neO b o e)
    exact ⟨_, q'⟩
  · obtain ⟨m, hn, hl⟩ := I.loc
    obtain ⟨o, es, ep, q, r⟩ := id hn
    obtain ⟨sl, q'⟩ := any _ o q fun z => (ho _ z).loc rfl
    refine ⟨m, ⟨_, es, ep, q', r⟩, fun i x v e1 e2 e3 => ?_⟩
    obtain ⟨u, ru, lu⟩ := hl i x v e1 e2 e3
    refine ⟨u, ru, ?_⟩
    rcases lu with l | ⟨kk, c, e, z⟩
    · exact .inl l
    · exact .inr ⟨kk, c, e, cellK x c e _ z⟩
  · obtain ⟨v, z⟩ := I.cell x c e
    exact ⟨v, cellK x c e v z⟩
  · obtain ⟨e, n, ne, nf, d⟩ := I.pin q hq
    refine ⟨p.keep _ _ e (fun z => ?_) (fun z => (ho _ z).pin q hq rfl), n, ne, nf, d⟩
    rcases List.mem_cons.mp (I.stkSub _ z) with y | y
    · exact ne y
    · exact nf y
  · have tr : ∀ b u, H b = some u → b ∉ frs X.stack ∧ b ∉ own := fun b u q => ⟨fun z => (by rw [I.stkFree b z] at q; cases q), fun z => (by rw [(ho b z).un] at q; cases q)⟩
    refine (I.hok a o e).stay (fun b u hb q => ?_) (fun _ q => q) fun _ _ q => q
    rcases hb with z | z
    · rw [z] at q ⊢; exact p.keep _ _ q (tr a o e).1 (tr a o e).2
    · exact p.keep _ _ q (tr b _ z).1 (tr b _ z).2
theorem OwnA.of (I : Inv X pins σ H s) {H' : Hp} {b : Addr} (hex : X.ex = []) (n : s.heap.get? b = none) (u : H' b = none) : OwnA X pins H' b := by
  refine ⟨?_, u, fun z => ?_, fun x c e z => ?_, fun p hp z => ?_⟩
  · cases q : X.s₀.heap.get? b with
    | none => rfl
    | some o =>
      obtain ⟨o', e⟩ := I.base.there b o q (by rw [hex]; exact fun z => (nomatch z))
      rw [n] at e
      cases e
  · obtain ⟨m, ⟨o, _, _, q, _⟩, _⟩ := I.loc
    rw [← z, n] at q
    cases q
  · obtain ⟨v, o, q, _⟩ := I.cell x c e
    rw [z, n] at q
    cases q
  · have q := (I.pin p hp).1
    rw [z, n] at q
    cases q
theorem Inv.track {u : HO} {a : Addr} (I : Inv X pins σ H s) (o : OwnA X pins H a) (new : ObjOk X.prog X.w (upd H a u) s.heap a u) : Inv X pins σ (upd H a u) s := by
  have ne : ∀ b v, H b = some v → b ≠ a := fun b v e => ne_of_none e o.un
  refine ⟨I.ok, I.os, I.bare, ⟨I.base.keep, I.base.slot, fun b ob e n hx => ?_, I.base.there, fun b xs q => ?_, fun b ob v q => ?_, fun b ps q => ?_⟩, I.loc, I.cell, ?_, fun x c e => ?_, fun p hp => ?_, fun b v e => ?_, I.len⟩
  · rw [upd_ne (fun z => by rw [z, o.new] at e; cases e)]; exact I.base.free b ob e n hx
  · have q' := I.base.tups b xs q
    rw [upd_ne (ne _ _ q')]; exact q'
  · have q' := I.base.frzs b ob v q
    rw [upd_ne (ne _ _ q')]; exact q'
  · obtain ⟨more, q'⟩ := I.base.tbls b ps q
    exact ⟨more, by rw [upd_ne (ne _ _ q')]; exact q'⟩
  · rw [upd_ne (Ne.symm o.loc)]; exact I.free
  · rw [upd_ne (o.cel x c e)]; exact I.freeC x c e
  · obtain ⟨e, n, r⟩ := I.pin p hp
    exact ⟨e, by rw [upd_ne (o.pin p hp)]; exact n, r⟩
  · by_cases hb : b = a
    · subst hb; rw [upd_same] at e; cases e; exact new
    · rw [upd_ne hb] at e
      exact (I.hok b v e).stay (fun _ _ _ q => q) (fun c q => by rw [upd_ne (ne _ _ q)]; exact q) fun c xs q => by rw [upd_ne (ne _ _ q)]; exact q
end
def CX1 (P : Program) (w : World) : CXT := fun outer H s E e s' =>
  ∃ ea T cls H', e = .ref ea ∧ s'.os = s.os ∧ AllBare s'.gens ∧ Un (frs outer) [] H H' s.heap s'.heap ∧ HOk P w H' s'.heap ∧ Trd s'.heap ea T cls ∧ s.heap.get? ea = none ∧ s.heap.get? T = none ∧ H' ea = none ∧ H' T = none ∧ E cls none H'
theorem FnOk.of0 {P P' : Program} {w w' : World} {K : PySem.W.Frag} {mg : Str → Option Value} {base : Heap} {k : Nat} {f : Addr} {fd : FuncData} {ps : List Str} {sp : Sp} (F : FnOk P w K mg base CX0 k f fd ps sp) : FnOk P w K mg base (CX1 P' w') k f fd ps sp :=
  ⟨F.len, fun A outer s H args us vs Q E hr he hb hv hs => codeAny_mono (F.run A outer s H args us vs Q E hr he hb hv hs) fun r s' h => by
    cases r with
    | ok fl => cases fl <;> exact h
    | error e => exact False.elim h⟩
section
variable {X : Cx} {pins : List (Addr × Obj)} {σ : St} {H : Hp} {s s' : Shared} {E : XK} {e : Value}
def XPo (X : Cx) (pins : List (Addr × Obj)) (σ : St) (E : XK) (e : Value) (s' : Shared) : Prop :=
  ∃ ea T cls H', e = .ref ea ∧ Inv X pins σ H' s' ∧ Trd s'.heap ea T cls ∧ OwnA X pins H' ea ∧ OwnA X pins H' T ∧ E cls none H'
theorem Inv.come (I : Inv X pins σ H s) (hex : X.ex = []) (h : CX1 X.prog X.w X.stack H s E e s') : XPo X pins σ E e s' := by
  obtain ⟨ea, T, cls, H', rfl, os, bare, un, hok, tr, n1, n2, u1, u2, q⟩ := h
  exact ⟨ea, T, cls, H', rfl, I.call' (ch := []) os un hok bare (fun b z => (nomatch z)), tr, OwnA.of I hex n1 u1, OwnA.of I hex n2 u2, q⟩
end
section
variable {P : Program} {w : World} {K : PySem.W.Frag} {mg : Str → Option Value} {base : Heap} {N : List Str} {qual : Str} {scope : Scope} {f : Addr} {cd : Value} {A : Around} {outer : List Env} {s0 : Shared} {H0 : Hp} {E : XK}
  {pins : List (Addr × Obj)} {σ : St} {H : Hp} {s : Shared}
theorem xe_out {ea : Addr} {own : List Addr} {cls : Value} (I : Inv (cxOf (CX1 P w) P w K mg base N qual scope f cd A outer s0 H0 E) pins σ H s) (x : Xat s.heap ea own cls)
    (ho : ∀ b ∈ own, OwnA (cxOf (CX1 P w) P w K mg base N qual scope f cd A outer s0 H0 E) pins H b) (hm : ea ∈ own) (q : E cls none H) : (cxOf (CX1 P w) P w K mg base N qual scope f cd A outer s0 H0 E).xe (.ref ea) s := by
  show wpAny (model P w) _ (leaving _ (.ref ea)) _ _ s
  unfold leaving
  refine wpAny_bind (noteland (L := s0.heap.objs.size) I.ok.frames I.stack rfl x fun h' T p hT tr => ?_)
  have I' := I.pas p ho
  have nT : (cxOf (CX1 P w) P w K mg base N qual scope f cd A outer s0 H0 E).s₀.heap.get? T = none ∧ H T = none := by
    rcases hT with z | z
    · exact ⟨(ho T z).new, (ho T z).un⟩
    · have := OwnA.of (H' := H) I rfl z (I.hok.free z)
      exact ⟨this.new, this.un⟩
  exact ⟨ea, T, cls, H, rfl, I'.os, I'.bare, I'.base, I'.hok, tr, (ho ea hm).new, nT.1, (ho ea hm).un, nT.2, q⟩
end
end L2
set_option Elab.async false
set_option linter.all false
set_option maxRecDepth 100000
set_option maxHeartbeats 5000000
namespace L2
open PySem PySem.Spec PyProof.Rows
theorem own_cls {K : PySem.W.Frag} {h : Heap} {mg : Str → Option Value} {x : Str} {C : Addr} {bmB : List Value} {newId : String} (X : K.In h) (b : mg x = some (.ref C)) (q : PySem.W.excIn K C bmB newId = true) : OwnCls x C bmB newId mg h := by
  refine ⟨b, ?_⟩
  unfold PySem.W.excIn at q
  split at q
  · rename_i dd cd sl ho
    split at q
    · rename_i C' bm k0 k1 k2 k3 n k5 hm hs
      simp only [Bool.and_eq_true, beq_iff_eq, Bool.not_eq_true'] at q
      obtain ⟨⟨⟨⟨⟨rfl, rfl⟩, hdel⟩, ht⟩, hok⟩, hni⟩ := q
      cases cd
      dsimp only at hm hdel hok hni
      subst hm hdel
      obtain ⟨l⟩ := sl
      have hs' : l = [k0, k1, k2, k3, some (.builtin n), k5] := hs
      subst hs'
      exact ⟨_, _, _, _, _, _, _, _, _, _, _, _, _, _, _, _, _, X _ _ ho, .of_isNs (PySem.W.isNs_of_in X hok), PySem.W.nsMap_none_of_in X hok hni, PySem.W.tail_of_in X ht⟩
    · cases q
  · cases q
def RaiseOk (X : Cx) (E : XK) : Prop := ∀ (pins : List (Addr × Obj)) (σ : St) (H : Hp) (s : Shared) (ea : Addr) (cls : Value), Inv X pins σ H s → Xat s.heap ea [ea] cls → OwnA X pins H ea → E cls none H → X.xe (.ref ea) s
def tRaise (C : Addr) (E : XK) (t : TA) : TS := fun _ σ H => t σ H fun vs H1 => vs.length ≤ sizeLine ∧ E (.ref C) none H1
section
variable {X : Cx} {e : Expr} {es : List Expr} {t : TA} {x : Str} {np cpos pos : Pos} {C : Addr} {E : XK}
theorem ps_raise {bm : List Value} {newId B initId : String} (hc : X.calm = true) (hex : X.ex = []) (hx : RaiseOk X E) (hm : X.mg x = some (.ref C)) (q : PySem.W.excIn X.K C bm newId = true) (FB : ExcBaseFacts B newId initId bm) (hg : Gl X x) (ha : PA X (e :: es) t)
    (hdb : (x == ("__debug__" : Str)) = false := by decide) (he : starEach (e :: es) X.env = (false, eval e X.env) :: starEach es X.env := by rfl) (hpl : (backTo cpos (starEach es X.env)).any (·.1) = false := by rfl) :
    PS X (.Raise (some (.Call (.Name x np) (e :: es) [] cpos)) none pos) (tRaise C E t) := by
  intro pins s σ H D I h
  obtain ⟨tl, Nn, nm, qq, bs, hdct, sn, sub, ab, col, dd, k0, k1, k2, k3, k5, mN, hC, hN, hni, T⟩ := (own_cls I.mod.kin hm q).obj
  refine wpAny_Raise_call_subT (C := C) (nm := nm) (q := qq) (N := Nn) (bs := bs) (bm := tl) (hdct := hdct) (sn := sn) (sub := sub) (ab := ab) (col := col) (dd := dd) (k0 := k0) (k1 := k1) (k2 := k2) (k3 := k3) (k5 := k5) (mN := mN)
    FB (T.hasType FB.hasBase) (I.ok.hd hc) (by rw [he]; show (false || (backTo cpos (starEach es X.env)).any (·.1)) = false; rw [hpl]; rfl) hni (ld_glob I hg hm ⟨rfl, ?_⟩ hdb)
  have hA := ha cpos pins s σ H _ I h
  rw [he] at hA ⊢
  refine Calls.evalArgs_plain (thn hA fun us s2 ⟨vs, H2, I2, rv, hz, qE⟩ => ⟨rfl, (by rw [← rv.length]; exact hz), I2.bk _ _ hC, hN.keeps I2.bk, T.keeps I2.bk, fun h' ea me => ?_⟩)
  obtain ⟨tt, ge, _, _⟩ := me.there
  exact hx pins σ H2 _ ea (.ref C) (I2.kept (t' := s2.toks) me.keeps) ⟨_, _, ge, rfl, rfl, rfl, .inl ⟨rfl, rfl⟩⟩ (OwnA.of I2 hex me.new (I2.hok.free me.new)) qE
end
section
variable {P : Program} {w : World} {K : PySem.W.Frag} {mg : Str → Option Value} {base : Heap} {N : List Str} {qual : Str} {scope : Scope} {f : Addr} {cd : Value} {A : Around} {outer : List Env} {s0 : Shared} {H0 : Hp} {E : XK}
theorem raise_ok : RaiseOk (cxOf (CX1 P w) P w K mg base N qual scope f cd A outer s0 H0 E) E := fun pins σ H s ea cls I x o q =>
  xe_out I x (fun b hb => by rw [List.mem_singleton.mp hb]; exact o) (by simp) q
theorem passes_own : PassesOwn (model P w) (cxOf (CX1 P w) P w K mg base N qual scope f cd A outer s0 H0 E).A (cxOf (CX1 P w) P w K mg base N qual scope f cd A outer s0 H0 E).env (cxOf (CX1 P w) P w K mg base N qual scope f cd A outer s0 H0 E).xe :=
  PassesOwn.leaving (Q₁ := fun e s'' => CX1 P w outer H0 s0 E e s'') (E₁ := fun e' s'' => CX1 P w outer H0 s0 E e' s'')
end
structure Dx (P : Program) (w : World) (K : PySem.W.Frag) (mg : Str → Option Value) (base : Heap) (k : Nat) (x : Str) (ps : List Str) (sp : Sp) : Prop where
  ex : ∃ (f : Addr) (fd : FuncData), FnOk P w K mg base (CX1 P w) k f fd ps sp ∧ Binds K fd ps [] ∧ PySem.W.keepIn K (.ref f) = true ∧ mg x = some (.ref f)
theorem Dx.mono {P : Program} {w : World} {K : PySem.W.Frag} {mg : Str → Option Value} {base : Heap} {j k : Nat} {x : Str} {ps : List Str} {sp : Sp} (D : Dx P w K mg base j x ps sp) (h : j ≤ k) : Dx P w K mg base k x ps sp :=
  let ⟨f, fd, F, r⟩ := D.ex; ⟨f, fd, F.mono h, r⟩
theorem Df.x {P : Program} {w : World} {K : PySem.W.Frag} {mg : Str → Option Value} {base : Heap} {k : Nat} {x : Str} {ps : List Str} {sp : Sp} (D : Df P w K mg base k x ps sp) : Dx P w K mg base k x ps sp :=
  let ⟨f, fd, F, r⟩ := D.ex; ⟨f, fd, F.of0, r⟩
theorem Dn.okx {P : Program} {w : World} {K : PySem.W.Frag} {mg : Str → Option Value} {base : Heap} {x : Str} {st : Stmt} {N ps : List Str} {k : Nat} {sp : Sp} (D : Dn K mg x st ps) (S : FnScope N ps (defScope st)) (len : ∀ vs H Q E, sp vs H Q E → vs.length = ps.length)
    (hbody : ∀ (f : Addr) (cdv : Value) (A : Around) (outer : List Env) (s : Shared) (H : Hp) (vs : List V) (Q : VK) (E : XK), Room k (A.deeper (envOfC x (defScope st) s.heap.objs.size f cdv)) → sp vs H Q E →
      ∃ t, PSs (cxOf (CX1 P w) P w K mg base N x (defScope st) f cdv A outer s H E) (defBody st) t ∧ t { nx := fun _ H' => Q .non H', rt := Q } (start N vs) H) : Dx P w K mg base (k + 1) x ps sp := by
  obtain ⟨f, fd, F, b, m⟩ := D.ex
  obtain ⟨oc, od, kV, doc, pm, an, cdv, ct, osl, rfl, lk, hcd⟩ := F.ex
  exact ⟨f, _, fn_of lk hcd S len fun A outer s H vs Q E hr h => hbody f cdv A outer s H vs Q E hr h, b, F.kp, m⟩
section
variable {X : Cx} {k : Nat} {x : Str} {ps : List Str} {sp : Sp} {e : Expr} {es : List Expr} {t : TA} {p pos : Pos} {E : XK}
end
abbrev TEX := St → Hp → VK → XK → Prop
abbrev TSX := Ends → (St → XK) → St → Hp → Prop
def PEX (X : Cx) (e : Expr) (t : TEX) : Prop :=
  ∀ (pins : List (Addr × Obj)) (s : Shared) (σ : St) (H : Hp) (Q : VK) (E : XK), Inv X pins σ H s → t σ H Q E → wpAny (model X.prog X.w) X.A (eval e X.env) (EP X pins σ Q) (XPo X pins σ E) s
def XPs (X : Cx) (pins : List (Addr × Obj)) (E : St → XK) (e : Value) (s' : Shared) : Prop := ∃ σ', XPo X pins σ' (E σ') e s'
def PSX (X : Cx) (st : Stmt) (t : TSX) : Prop :=
  ∀ (pins : List (Addr × Obj)) (s : Shared) (σ : St) (H : Hp) (D : Ends) (E : St → XK), Inv X pins σ H s → t D E σ H → wpAny (model X.prog X.w) X.A (exec st X.env) (SP X pins D) (XPs X pins E) s
def PSXs (X : Cx) (st : List Stmt) (t : TSX) : Prop :=
  ∀ (pins : List (Addr × Obj)) (s : Shared) (σ : St) (H : Hp) (D : Ends) (E : St → XK), Inv X pins σ H s → t D E σ H → wpAny (model X.prog X.w) X.A (execs st X.env) (SP X pins D) (XPs X pins E) s
section
variable {X : Cx} {st : Stmt} {rest : List Stmt} {e : Expr} {pos : Pos}
theorem psxs_one {t : TSX} (h1 : PSX X st t) : PSXs X [st] t := by
  intro pins s σ H D E I h
  refine wpAny_execs_cons (thn (h1 pins s σ H D E I h) fun f s1 q => ?_)
  cases f with
  | next => exact wpAny_execs_nil q
  | ret v => exact q
  | brk => exact q
  | cont => exact q
theorem psx_ret {te : TEX} (he : PEX X e te) : PSX X (.Return (some e) pos) (fun D E σ H => te σ H D.rt (E σ)) := by
  intro pins s σ H D E I h
  exact wpAny_Return_some (wpAny_mono (he pins s σ H _ _ I h) (fun v s1 ⟨x, H1, I1, r1, q1⟩ => ⟨x, σ, H1, I1, r1, q1⟩) fun _ _ z => ⟨σ, z⟩)
theorem pex_dx {k : Nat} {x : Str} {ps : List Str} {sp : Sp} {es : List Expr} {t : TA} {p : Pos} (hex : X.ex = []) (D : Dx X.prog X.w X.K X.mg X.base k x ps sp) (hr : Room k X.A) (hg : Gl X x) (ha : PA X.nox (e :: es) t) (hdb : (x == ("__debug__" : Str)) = false := by decide)
    (he : starEach (e :: es) X.env = (false, eval e X.env) :: starEach es X.env := by rfl) (hpl : (backTo pos (starEach es X.env)).any (·.1) = false := by rfl) :
    PEX X (.Call (.Name x p) (e :: es) [] pos) (fun σ H Q E => t σ H fun vs H1 => sp vs H1 Q E) := by
  intro pins s σ H Q E I h
  obtain ⟨f, fd, F, hb, hk, hm⟩ := D.ex
  refine wpAny_Call_Name_kw (ld_glob I hg hm ?_ hdb)
  refine PySem.W.callWith_K (h₀ := X.base) I.ok.mod.kin hk (wpAny_mono (ha pos pins s σ H _ (I.wish _) h) (fun us s1 ⟨vs, H1, I1, r, q⟩ => ⟨I1.kIn, ?_⟩) fun _ _ z => False.elim z) he hpl
  have I1 := I1.unwish
  have hl : us.length = ps.length := by rw [← r.length]; exact F.len _ _ _ _ q
  have hbb := hb s1 us I1.kIn (by rw [List.append_nil]; exact hl)
  rw [List.append_nil] at hbb
  refine wpAny_call (codeAny_mono (F.run X.A X.stack s1 H1 ⟨us, []⟩ us vs Q E hr I1.env0 hbb r q) fun r s' hq => ?_)
  cases r with
  | error e => exact I1.come hex hq
  | ok fl =>
    cases fl with
    | ret u => exact I1.after hq
    | next => exact False.elim hq
    | brk => exact False.elim hq
    | cont => exact False.elim hq
end
end L2
set_option Elab.async false
set_option linter.all false
set_option maxRecDepth 100000
set_option maxHeartbeats 5000000
namespace L2
open PySem PySem.Spec PySem.W PySem.Calls PyProof.Rows
section
variable {M : Model} {K : PySem.W.Frag}
theorem exm_each {cls : Value} : ∀ {cs : List Value} {b : Bool}, PySem.W.exmAny K cls cs = some b → ∀ c ∈ cs, ∃ v, PySem.W.exmOne K cls c = some v
  | [], _, _, c, hc => nomatch hc
  | d :: r, b, h, c, hc => by
    obtain ⟨b1, d1, x1, y1, z1⟩ := PySem.W.exmAny_cons h
    rcases List.mem_cons.mp hc with e | e
    · rw [e]; exact ⟨b1, x1⟩
    · exact exm_each y1 c e
theorem exm_tup {cs : List Value} {cls : Value} {tp e : Addr} {b : Bool} {h : Heap} {n : Nat} {o : Obj} (X : K.In h) (LT : PySem.W.Looks M h (typeOf (.ref e)) cls) (hp : h.get? tp = some o) (hc : o.cls = .type "tuple") (hd : o.data = .seq cs.toArray n)
    (hx : PySem.W.exmAny K cls cs = some b) : PySem.W.Looks M h (excMatches (.ref e) (.ref tp)) b := by
  intro A Q E s k q
  have LT0 : PySem.W.Looks M h (isInstance (.ref tp) (.type "tuple")) true := by
    refine PySem.W.Looks.andThen (a := .type "tuple") ?_ (PySem.W.Looks.of_pure isSubtype_tuple_tuple)
    exact hc ▸ (PySem.W.Looks.ld hp).andThen .now
  have X' := X.keeps k
  have one : ∀ c ∈ cs, ∃ v, PySem.W.exmOne K cls c = some v := exm_each hx
  unfold excMatches
  refine wpAny_bind ((LT0.keeps k).here ?_)
  dsimp only
  rw [if_pos rfl]
  refine wpAny_bind (wpAny_seqItems (k _ _ hp) hd (wpAny_bind (wpAny_pure ?_)))
  dsimp only [Option.getD_some, Option.getD]
  refine wpAny_bind (wpAny_mono (wpAny_forIn_list _ (fun rest _ s' => s' = s ∧ ∀ c ∈ rest, c ∈ cs) (fun _ s' => s' = s) ?_ (fun _ _ h => h.1) _ _ ⟨rfl, fun c hc => hc⟩) (fun _ s' es => ?_) fun _ _ z => z)
  · rintro c rest ⟨⟩ s' ⟨rfl, hm⟩
    obtain ⟨v, hv⟩ := one c (hm c List.mem_cons_self)
    refine wpAny_bind (((PySem.W.exm_cls (M := M) X' hv).1).here ?_)
    rw [if_neg (show ¬ (!true) = true from Bool.false_ne_true)]
    exact wpAny_pure ⟨rfl, fun c hc => hm c (List.mem_cons_of_mem _ hc)⟩
  subst es
  refine wpAny_bind ((LT.keeps k).here ?_)
  refine wpAny_bind (wpAny_mono (wpAny_forIn_list _ (fun rest c s'' => s'' = s' ∧ c = (none, ()) ∧ PySem.W.exmAny K cls rest = some b) (fun c s'' => s'' = s' ∧ ((c = (some true, ()) ∧ b = true) ∨ (c = (none, ()) ∧ b = false))) ?_ ?_ _ _ ⟨rfl, rfl, hx⟩) (fun c s'' h => ?_) fun _ _ z => z)
  · rintro c rest st s'' ⟨rfl, rfl, hr⟩
    obtain ⟨b1, d1, x1, y1, z1⟩ := PySem.W.exmAny_cons hr
    refine wpAny_bind (((PySem.W.exm_cls (M := M) X' x1).2).here ?_)
    cases b1 with
    | true =>
      rw [if_pos rfl]
      exact wpAny_pure ⟨rfl, .inl ⟨rfl, by rw [z1]; rfl⟩⟩
    | false =>
      rw [if_neg Bool.false_ne_true]
      refine wpAny_pure ⟨rfl, rfl, ?_⟩
      rw [y1, z1]
      rfl
  · rintro c s'' ⟨rfl, rfl, hr⟩
    have : some false = some b := hr
    cases this
    exact ⟨rfl, .inr ⟨rfl, rfl⟩⟩
  · obtain ⟨rfl, ⟨rfl, rfl⟩ | ⟨rfl, rfl⟩⟩ := h
    · exact wpAny_pure q
    · exact wpAny_pure q
end
def clsV : V → Option Value
  | .ref a => some (.ref a)
  | .ty n => some (.type n)
  | _ => none
def clsVs : List V → Option (List Value)
  | [] => some []
  | x :: r => match clsV x, clsVs r with
    | some c, some cs => some (c :: cs)
    | _, _ => none
theorem clsVs_of : ∀ {xs : List V} {us cs : List Value}, Vals xs us → clsVs xs = some cs → us = cs
  | [], _, _, .nil, h => by cases h; rfl
  | x :: r, u :: us, cs, .cons rx rr, h => by
    unfold clsVs at h
    split at h
    · rename_i c cs' h1 h2
      cases h
      rw [clsVs_of rr h2]
      cases x with
      | ref a => cases h1; cases (show u = Value.ref a from rx); rfl
      | ty n => cases h1; cases (show u = Value.type n from rx); rfl
      | _ => cases h1
    · cases h
end L2
set_option Elab.async false
set_option linter.all false
set_option maxRecDepth 100000
set_option maxHeartbeats 5000000
namespace L2
open PySem PySem.Spec PyProof.Rows
def Cx.suite (X : Cx) (ea : Addr) : Cx := { X with A := X.A.mark (some (.ref ea)), calm := false, xe := fun _ _ => False }
section
variable {X : Cx} {pins : List (Addr × Obj)} {σ : St} {H : Hp} {s : Shared} {ea : Addr}
theorem Cx.Ok.suite (ok : X.Ok) (ea : Addr) : (X.suite ea).Ok :=
  ⟨ok.mod, ok.kind, ok.glob, ok.blt, ok.above, ok.inj, ok.has, ok.cab, fun h => Bool.noConfusion h, ok.frames, ok.stk, ok.exf, ok.bs, ok.bsz, ok.noex, ok.exfs, ok.funs, ok.frf⟩
theorem Inv.suite (I : Inv X pins σ H s) (ea : Addr) : Inv (X.suite ea) pins σ H s := ⟨I.ok.suite ea, I.os, I.bare, I.base, I.loc, I.cell, I.free, I.freeC, I.pin, I.hok, I.len⟩
theorem Inv.unsuite (ok : X.Ok) (I : Inv (X.suite ea) pins σ H s) : Inv X pins σ H s := ⟨ok, I.os, I.bare, I.base, I.loc, I.cell, I.free, I.freeC, I.pin, I.hok, I.len⟩
def ExO (ea : Addr) (cls : Value) : HO := .ext fun h => ∃ o vs, h.get? ea = some o ∧ o.cls = cls ∧ o.dict = none ∧ o.data = .fields vs
theorem exo_ok {P : Program} {w : World} {h : Heap} {T : Addr} {cls : Value} (x : Trd h ea T cls) : ObjOk P w H h ea (ExO ea cls) := by
  obtain ⟨oe, vs, oT, ts, he, hc, hdi, hd, _⟩ := x
  refine ⟨⟨oe, vs, he, hc, hdi, hd⟩, ⟨oe, he⟩, ?_⟩
  rintro h1 h2 ⟨o, vs', a, b⟩ k
  exact ⟨o, vs', k o a, b⟩
end
def Mt (K : PySem.W.Frag) (H : Hp) (c : V) (cls : Value) (b : Bool) : Prop := match c with
  | .ref C => PySem.W.exmOne K cls (.ref C) = some b ∨ ∃ ys cs, H C = some (.tup ys) ∧ clsVs ys = some cs ∧ PySem.W.exmAny K cls cs = some b
  | .ty T => PySem.W.exmOne K cls (.type T) = some b
  | _ => False
abbrev THn := Ends → Value → St → Hp → Prop
def PH (X : Cx) (hs : List ExceptHandler) (t : THn) : Prop :=
  ∀ (pins : List (Addr × Obj)) (s : Shared) (σ : St) (H : Hp) (D : Ends) (ea T : Addr) (cls : Value), Inv X pins σ H s → Trd s.heap ea T cls → OwnA X pins H ea → OwnA X pins H T → t D cls σ H →
    wpAny (model X.prog X.w) X.A (handleBy (.ref ea) X.env hs) (SP X pins D) X.xe s
theorem ph_never {X : Cx} {hs : List ExceptHandler} : PH X hs (fun _ _ _ _ => False) := fun _ _ _ _ _ _ _ _ _ _ _ _ h => h.elim
section
variable {X : Cx} {pins : List (Addr × Obj)} {σ : St} {H : Hp} {s : Shared} {ea T : Addr} {cls : Value}
theorem OwnA.nofs (I : Inv X pins σ H s) {b : Addr} (o : OwnA X pins H b) : b ∉ X.fs := fun hb => by
  obtain ⟨_, ob, q, _⟩ := I.ok.funs.mem hb
  rw [o.new] at q
  cases q
theorem OwnA.nostk (I : Inv X pins σ H s) {b : Addr} (o : OwnA X pins H b) : b ∉ frs X.stack := fun hb => by
  rcases List.mem_cons.mp (I.stkSub b hb) with z | z
  · exact o.loc z
  · exact o.nofs I z
theorem trd_ty {M : Model} {h : Heap} (x : Trd h ea T cls) : PySem.W.Looks M h (typeOf (.ref ea)) cls := by
  obtain ⟨oe, vs, oT, ts, he, hc, _⟩ := x
  exact hc ▸ (PySem.W.Looks.ld he).andThen .now
theorem ph_test {tx : Expr} {te : TE} {pos : Pos} {R : Result → Shared → Prop} (ht : PE (X.suite ea) tx te) (I : Inv X pins σ H s) (x : Trd s.heap ea T cls) (o1 : OwnA X pins H ea) (o2 : OwnA X pins H T)
    {Q0 : VK} (h : te σ H Q0) (q : ∀ c H1 s1, Q0 c H1 → Inv X pins σ H1 s1 → Trd s1.heap ea T cls → OwnA X pins H1 ea → OwnA X pins H1 T → ∃ b, Mt X.K H1 c cls b ∧ R (.ok (if b then .brk else .next)) s1) :
    codeAny (model X.prog X.w) (X.A.mark (some (.ref ea))) (.handlers (.ref ea) [.ExceptHandler (some tx) none [] pos] X.env) R s := by
  obtain ⟨oe, vs, oT, ts, he, hc, hdi, hd, h1, hTe, hT, hdT, h3⟩ := id x
  have I0 : Inv (X.suite ea) (pins ++ [(ea, oe), (T, oT)]) σ H s := (I.suite ea).pins_of fun p hp => by
    rcases List.mem_append.mp hp with z | z
    · exact I.pin p (List.mem_append_right _ z)
    · rcases List.mem_cons.mp z with y | y
      · rw [y]; exact ⟨he, o1.un, o1.loc, o1.nofs I, fun v q => by have q' : oe.data = _ := q; rw [hd] at q'; cases q'⟩
      · rw [List.mem_singleton.mp y]; exact ⟨hT, o2.un, o2.loc, o2.nofs I, fun v q => by have q' : oT.data = _ := q; rw [hdT] at q'; cases q'⟩
  refine codeAny_handlers_test (wpAny_mono (ht _ s σ H _ I0 h) (fun u s1 ⟨c, H1, I1, rc, qc⟩ => ?_) fun _ _ z => False.elim z)
  have p1 := I1.pin (ea, oe) (by simp)
  have p2 := I1.pin (T, oT) (by simp)
  have x1 : Trd s1.heap ea T cls := ⟨oe, vs, oT, ts, p1.1, hc, hdi, hd, h1, hTe, p2.1, hdT, h3⟩
  have I2 : Inv X pins σ H1 s1 := Inv.unsuite I.ok (I1.pins_of fun p hp => I1.pin p (List.mem_append_right _ (List.mem_append_left _ hp)))
  obtain ⟨b, mt, fin⟩ := q c H1 s1 qc I2 x1 ⟨o1.new, p1.2.1, o1.loc, o1.cel, o1.pin⟩ ⟨o2.new, p2.2.1, o2.loc, o2.cel, o2.pin⟩
  cases c with
  | ref C =>
    cases (show u = Value.ref C from rc)
    rcases mt with mt | ⟨ys, cs, ht, hv, mt⟩
    · exact (PySem.W.exm_one I2.kIn (trd_ty x1) mt).here fin
    · obtain ⟨its, rv, ⟨o, ho, hcl, n, hda⟩, _⟩ := I2.tuple (SqT.of ht)
      have ev := clsVs_of rv hv
      subst ev
      exact (exm_tup I2.kIn (trd_ty x1) ho hcl hda mt).here fin
  | ty n =>
    cases (show u = Value.type n from rc)
    exact (PySem.W.exm_one I2.kIn (trd_ty x1) mt).here fin
  | _ => exact mt.elim
theorem ph_land {M : Model} {A : Around} {E : Value → Shared → Prop} {Q : Unit → Shared → Prop} (I : Inv X pins σ H s) (x : Trd s.heap ea T cls) (o1 : OwnA X pins H ea) (o2 : OwnA X pins H T)
    (h : ∀ s1, Inv X pins σ (upd H ea (ExO ea cls)) s1 → Q () s1) : wpAny M A (setFlight (.ref ea) none) Q E s := by
  refine land_again x fun h' k x' => h _ ?_
  have p : Pas (frs X.stack) [T] s.heap h' := ⟨fun b o q _ n => k b o (fun z => n (by simp [z])) q, fun b o q hb => ⟨o.slots, k b o (fun z => o2.nostk I (z ▸ hb)) q⟩⟩
  have I' := I.pas p fun b hb => by rw [List.mem_singleton.mp hb]; exact o2
  exact I'.track o1 (exo_ok x')
end
section
variable {X : Cx} {b₀ : Stmt} {suite : List Stmt} {rest : List ExceptHandler} {tx : Expr} {te : TE} {ts : TS} {tr : THn} {pos : Pos}
theorem SP.unsuite {pins : List (Addr × Obj)} {D : Ends} {f : Flow} {s : Shared} {ea : Addr} (ok : X.Ok) (h : SP (X.suite ea) pins D f s) : SP X pins D f s := by
  cases f with
  | next => obtain ⟨σ, H, I, q⟩ := h; exact ⟨σ, H, I.unsuite ok, q⟩
  | brk => obtain ⟨σ, H, I, q⟩ := h; exact ⟨σ, H, I.unsuite ok, q⟩
  | cont => obtain ⟨σ, H, I, q⟩ := h; exact ⟨σ, H, I.unsuite ok, q⟩
  | ret u => obtain ⟨v, σ, H, I, r, q⟩ := h; exact ⟨v, σ, H, I.unsuite ok, r, q⟩
def tBare (K : PySem.W.Frag) (te : TE) (ts : TS) (tr : THn) : THn := fun D cls σ H => te σ H fun c H1 => ∃ b, Mt K H1 c cls b ∧ if b = true then ∀ ea, H1 ea = none → ts D σ (upd H1 ea (ExO ea cls)) else tr D cls σ H1
theorem ph_bare (ht : ∀ ea, PE (X.suite ea) tx te) (hs : ∀ ea, PSs (X.suite ea) (b₀ :: suite) ts) (hr : PH X rest tr) :
    PH X (.ExceptHandler (some tx) none (b₀ :: suite) pos :: rest) (tBare X.K te ts tr) := by
  intro pins s σ H D ea T cls I x o1 o2 h
  refine wpAny_handleBy_cons (ph_test (ht ea) I x o1 o2 h fun c H1 s1 ⟨b, mt, q⟩ I1 x1 u1 u2 => ⟨b, mt, ?_⟩) (by intro q; cases q)
  cases b with
  | false => exact hr pins s1 σ H1 D ea T cls I1 x1 u1 u2 q
  | true =>
    refine codeAny_handlers_suite (ph_land I1 x1 u1 u2 fun s2 I2 => ?_)
    exact wpAny_mono (hs ea pins s2 _ _ D (I2.suite ea) (q ea u1.un)) (fun f s4 z => z.unsuite I.ok) fun _ _ z => False.elim z
theorem ps_try {body : List Stmt} {h₀ : ExceptHandler} {hs : List ExceptHandler} {tb : TSX} {th : THn} (hex : X.ex = []) (hst : X.stack = X.env :: X.outer) (hfm : X.env.frame = some X.env.locals) (hb : PSXs X body tb) (hh : PH X (h₀ :: hs) th) :
    PS X (.Try body (h₀ :: hs) [] [] pos) (fun D σ H => tb D (fun σ1 cls _ H1 => th D cls σ1 H1) σ H) := by
  intro pins s σ H D I h
  refine wpAny_Try_except (wpAny_mono (hb pins s σ H D _ I h) (fun f s1 q => ?_) fun e s1 ⟨σ1, ea, T, cls, H1, e1, I1, x1, o1, o2, q⟩ => ?_)
  · cases f with
    | next => exact wpAny_execs_nil q
    | ret v => exact q
    | brk => exact q
    | cont => exact q
  · subst e1
    have fr := I1.ok.frames
    have st := I1.stack
    rw [hst] at fr st
    refine noteland fr st hfm x1.xat fun h' T' p hT tr => ?_
    rw [← hst] at p
    have own : ∀ b ∈ [ea, T], OwnA X pins H1 b := fun b hb => by
      rcases List.mem_cons.mp hb with z | z
      · rw [z]; exact o1
      · rw [List.mem_singleton.mp z]; exact o2
    have I2 := I1.pas p own
    refine hh pins _ σ1 H1 D ea T' cls I2 tr o1 ?_ q
    rcases hT with z | z
    · exact own T' z
    · exact OwnA.of I1 hex z (I1.hok.free z)
end
end L2
set_option Elab.async false
set_option linter.all false
set_option maxRecDepth 100000
set_option maxHeartbeats 5000000
namespace L2
open PySem PySem.Spec PySem.W PySem.Calls PyProof.Rows
structure ExcK (K : PySem.W.Frag) (C : Addr) : Prop where
  ga : PySem.W.findIn K (.ref C) "__getattribute__" = some (some (.builtin "BaseException.__getattribute__"))
  gt : PySem.W.findIn K (.ref C) "__getattr__" = some none
  kc : PySem.W.findIn K (.ref C) "__class__" = some (some (.builtin "object.__class__"))
  ob : PySem.W.mroIn K C (.type "object") = some true
  be : PySem.W.mroIn K C (.type "BaseException") = some true
  gs : PySem.W.specialIn K (.builtin "object.__class__") "__get__" = some (some (.builtin "getset_descriptor.__get__"))
  tk : PySem.W.takesIn K (.builtin "object.__class__") = some true
theorem ExcK.cls {K : PySem.W.Frag} {C : Addr} (k : ExcK K C) : ∃ cd, PySem.W.clsIn K C = some cd := by
  obtain ⟨cd, h, _⟩ := Option.bind_eq_some_iff.mp k.ob
  exact ⟨cd, h⟩
section
variable {prog : Program} {w : World} {A : Around} {E : Value → Shared → Prop} {s : Shared} {K : PySem.W.Frag} {x C : Addr} {ox : Obj}
end
section
variable {X : Cx}
end
section
variable {X : Cx}
end
end L2
set_option Elab.async false
set_option linter.all false
set_option maxRecDepth 100000
set_option maxHeartbeats 5000000
namespace L2
open PySem PySem.Spec PyProof.Rows PySem.SeqAt
theorem nolen_rev : typeLookup (.type "list_reverseiterator") "__len__" = pure none := by rw [typeLookup_type, builtinLookup_eq_fast]; kernel_rfl
theorem hint_rev : typeLookup (.type "list_reverseiterator") "__length_hint__" = pure (some (.builtin "list_reverseiterator.__length_hint__")) := by rw [typeLookup_type, builtinLookup_eq_fast]; kernel_rfl
theorem bi_reversed : bootBuiltins "reversed" = some (.type "reversed") := by decide +kernel
section
variable {pg : Program} {wd : World} {Ar : Around} {Ex : Value → Shared → Prop} {st : Shared}
abbrev FromEnd (src : Array Value) (got : Array Value) : Prop := ItemsOf (fun k x => src[src.size - 1 - k]? = some x) got src.size
theorem apart {it to : Addr} {j : Int} {src : Addr} {k : Nat} (ri : st.heap.IsRevIter it src j) (lt : st.heap.get? to = some { cls := .type "list", data := .seq #[] k }) : to ≠ it := by
  rintro rfl
  obtain ⟨ob, g, cl, _⟩ := ri
  rw [lt] at g
  cases g
  exact absurd cl (show ¬ Value.type "list" = Value.type "list_reverseiterator" by decide)
theorem take_rev {Z : Result → Shared → Prop} {it src : Addr} {vals : Array Value} (calm : Ar.handled = none) (ri : st.heap.IsRevIter it src ((vals.size : Int) - 1)) (ls : st.heap.IsList src vals) (off : src ≠ it) (few : vals.size ≤ sizeLine)
    (to : Addr) (out : Value) (k : Nat) (tos : to ≠ src) (lt : st.heap.get? to = some { cls := .type "list", data := .seq #[] k })
    (z : ∀ g tk got k', (∀ b ob, b ≠ to → b ≠ it → st.heap.get? b = some ob → g.get? b = some ob) → g.get? to = some { cls := .type "list", dict := none, data := .seq got k', slots := #[] } → FromEnd vals got → Z (.ok (.ret out)) { st with heap := g, toks := tk }) :
    wpAny (model pg wd) Ar.in1 (Builtin.List.listExtendWith (.ref to) (.ref it) out) (fun fin t => match fin with | .done f => Z (.ok f) t | .again c => c.quiet = true ∧ codeAny (model pg wd) Ar c Z t) (fun e t => Z (.error e) t) st := by
  have toi := apart ri lt
  have ty := ri.typeIs
  have wk := (Walks.listRev (prog := pg) (w := wd) (A := Ar.in1) calm it src off vals).toS
  have nin : to ∉ [it, src] := by rintro (_ | ⟨_, _ | ⟨_, e⟩⟩); exact toi rfl; exact tos rfl; cases e
  have loop : codeAny (model pg wd) Ar (.builtin "list.extend.loop" ⟨[.ref to, .ref it, out], []⟩) Z st := by
    refine codeAny_extend_loopS wk few to nin out vals.size 0 st #[] k rfl (Nat.zero_le _) ⟨Nat.zero_le _, by simpa using ri, ls⟩ lt (ItemsOf.nil _) fun t got k' mv lt' all => ?_
    rw [Moved.eq_with mv]
    refine z t.heap t.toks got k' (fun b ob nb ni g => mv.heap b ob ?_ g) lt' all
    rintro (_ | ⟨_, _ | ⟨_, e⟩⟩)
    · exact nb rfl
    · exact ni rfl
    · cases e
  have unl : Builtin.List.listSameRef (.ref to) (.ref it) = false := by simp [Builtin.List.listSameRef, toi]
  unfold Builtin.List.listExtendWith
  refine wpAny_bind (wpAny_typeOf ty ?_)
  rw [if_neg (by rw [unl]; decide)]
  refine wpAny_bind (wpAny_pyIter_revIter ri (wpAny_bind (wpAny_holding ?_)))
  unfold Builtin.List.listLengthHint
  refine wpAny_bind (wpAny_specialOf ty nolen_rev ?_)
  show wpAny _ Ar.in1 (specialOf (Value.ref it) (Str.ofString "__length_hint__") >>= _) _ _ st
  refine wpAny_bind (wpAny_specialOf ty hint_rev ?_)
  generalize named : ("list_reverseiterator.__length_hint__" : String) = nm
  wp_delta
  have parts : splitId nm = some ("list_reverseiterator", "__length_hint__") := by subst named; decide +kernel
  rw [parts]
  subst named
  refine wpAny_bind (wpAny_isInstance (b := true) ty (by rw [isSubtype_type]; kernel_rfl) (wpAny_pure ?_))
  rw [if_neg (by decide)]
  exact wpAny_pure ⟨plainId_quiet F.plain_extend_loop _, loop⟩
theorem init_rev {Z : Result → Shared → Prop} {it src : Addr} {vals : Array Value} (calm : Ar.handled = none) (ri : st.heap.IsRevIter it src ((vals.size : Int) - 1)) (ls : st.heap.IsList src vals) (off : src ≠ it) (few : vals.size ≤ sizeLine)
    (to : Addr) (tos : to ≠ src) (lt : st.heap.get? to = some { cls := .type "list", data := .seq #[] })
    (z : ∀ g tk got k', (∀ b ob, b ≠ to → b ≠ it → st.heap.get? b = some ob → g.get? b = some ob) → g.get? to = some { cls := .type "list", dict := none, data := .seq got k', slots := #[] } → FromEnd vals got → Z (.ok (.ret .none)) { st with heap := g, toks := tk }) :
    wpAny (model pg wd) Ar.in1 (Builtin.«list.__init__» ⟨[.ref to, .ref it], []⟩) (fun fin t => match fin with | .done f => Z (.ok f) t | .again c => c.quiet = true ∧ codeAny (model pg wd) Ar c Z t) (fun e t => Z (.error e) t) st := by
  have toi := apart ri lt
  show wpAny _ _ (Builtin.List.listItems (.ref to) >>= fun old => Builtin.List.listUpdate (.ref to) (fun _ => #[]) >>= fun _ => letGo old.toList.reverse >>= fun _ => Builtin.List.listExtendWith (.ref to) (.ref it) .none) _ _ st
  refine wpAny_bind ?_
  unfold Builtin.List.listItems
  refine wpAny_bind (wpAny_seqItems lt rfl (wpAny_pure ?_))
  show wpAny _ _ (updateSeq to (fun _ => #[]) >>= fun _ => letGo (#[] : Array Value).toList.reverse >>= fun _ => Builtin.List.listExtendWith (.ref to) (.ref it) .none) _ _ st
  refine wpAny_bind (wpAny_updateSeq lt rfl (wpAny_bind (wpAny_letGo ?_)))
  have rest : ∀ b ob, b ≠ to → st.heap.get? b = some ob → (st.heap.update to (Obj.mapSeq (fun _ => (#[] : Array Value)))).get? b = some ob := fun b ob nb g => (Heap.get?_update_other _ _ (Ne.symm nb)).trans g
  refine take_rev calm (ri.at fun ob => rest it ob (Ne.symm toi)) (ls.at fun ob => rest src ob (Ne.symm tos)) off few to .none _ tos (Heap.get?_update_self (Obj.mapSeq (fun _ => (#[] : Array Value))) lt rfl) fun g tk got k' kp lt' all => ?_
  exact z g tk got k' (fun b ob nb ni e => kp b ob nb ni (rest b ob nb e)) lt' all
theorem call_list_rev {R : Value → Shared → Prop} {it src : Addr} {vals : Array Value} (calm : Ar.handled = none) (ri : st.heap.IsRevIter it src ((vals.size : Int) - 1)) (ls : st.heap.IsList src vals) (off : src ≠ it) (few : vals.size ≤ sizeLine)
    (z : ∀ g tk got k', (∀ b ob, b ≠ it → st.heap.get? b = some ob → g.get? b = some ob) → g.get? st.heap.objs.size = some { cls := .type "list", dict := none, data := .seq got k', slots := #[] } → FromEnd vals got → R (.ref st.heap.objs.size) { st with heap := g, toks := tk }) :
    wpAny (model pg wd) Ar (call (.type "list") [.ref it]) R Ex st := by
  have tos : st.heap.objs.size ≠ src := fun e => by
    obtain ⟨ob, g, _⟩ := id ls
    exact Nat.lt_irrefl _ (e ▸ Heap.lt_size g)
  have made : (st.heap.push { cls := .type "list", data := .seq #[] }).get? st.heap.objs.size = some { cls := .type "list", data := .seq #[] } := Heap.get?_push_size _ rfl
  refine callType_codes (Q₁ := fun x t => x = .ref st.heap.objs.size ∧ t = { st with heap := st.heap.push { cls := .type "list", data := .seq #[] } }) F.called_list (F.typeCall_list_1 _) F.entry_list_init (code_list_new _ ⟨rfl, rfl⟩) ?_
  rintro x t ⟨rfl, rfl⟩
  refine ⟨⟨_, made, rfl⟩, F.args_list_init_2 _ _, init_rev (Ar := Ar.in1) calm (ri.at fun ob => Heap.get?_push_of_some _) (ls.at fun ob => Heap.get?_push_of_some _) off few _ tos made fun g tk got k' kp lt' all => ⟨rfl, z g tk got k' (fun b ob ni e => ?_) lt' all⟩⟩
  exact kp b ob (Nat.ne_of_lt (Heap.lt_size e)) ni (Heap.get?_push_of_some _ e)
end
section
variable {X : Cx}
def tLRev (K : PySem.W.Frag) (ta : TA) : TE := fun σ H Q => ta σ H fun vs H1 => ∃ (a : Addr) (xs : List V), vs = [.ref a] ∧ SqL K H1 a xs ∧ ∀ l, H1 l = none → Q (.ref l) (upd H1 l (.lst xs.reverse))
theorem pe_lrev {a : Expr} {ta : TA} {p p2 pos pos2 : Pos} (hcm : X.calm = true) (hgl : Gl X "list") (hml : X.mg "list" = none) (hg : Gl X "reversed") (hm : X.mg "reversed" = none) (ha : PA X [a] ta)
    (hs : starEach [a] X.env = [(false, eval a X.env)] := by rfl)
    (he2 : starEach [.Call (.Name "reversed" p2) [a] [] pos2] X.env = (false, eval (.Call (.Name "reversed" p2) [a] [] pos2) X.env) :: starEach [] X.env := by rfl) :
    PE X (.Call (.Name "list" p) [.Call (.Name "reversed" p2) [a] [] pos2] [] pos) (tLRev X.K ta) := by
  intro pins s σ H Q I h
  refine wpAny_Call_Name_kw (ld_blt I hgl hml bi_list ?_)
  refine PyProof.Rows.callWith_type1 ?_ he2 rfl
  rw [he2]
  show wpAny _ _ (spliced ((false, eval (.Call (.Name "reversed" p2) [a] [] pos2) X.env) :: backTo pos (starEach [] X.env))) _ _ s
  refine Calls.spliced_cons ?_
  refine Call_ (ld_blt I hg hm bi_reversed (PyProof.Rows.callWith_type1 (thn (ha pos2 pins s σ H _ I h) fun us s1 ⟨vs, H1, I1, r1, q1⟩ => ?_) hs rfl))
  obtain ⟨b, xs, e, hx, q⟩ := q1
  subst e
  cases r1 with
  | cons r rr =>
    cases rr
    cases r
    obtain ⟨its, rv, ht, hz⟩ := I1.list hx
    have hlen := rv.length
    have hbl : b < s1.heap.objs.size := by obtain ⟨o, ho, _⟩ := ht.isList; exact Heap.lt_size ho
    refine call_reversed_list ht.isList ?_
    refine Calls.spliced_nil ?_
    refine call_list_rev (src := b) (vals := its.toArray) ?_ ⟨_, Heap.get?_push_size _ rfl, rfl, rfl⟩ (ht.isList.at fun o e => Heap.get?_push_of_some _ e) (Nat.ne_of_lt hbl) (by rw [List.size_toArray]; omega) fun h' tk acc' c' kp e items => ?_
    · exact I1.ok.hd hcm
    have ea : acc'.toList = its.reverse := by
      refine List.ext_getElem? fun i => ?_
      by_cases c : i < its.length
      · have hi : i < acc'.toList.length := by rw [Array.length_toList, items.1, List.size_toArray]; exact c
        rw [List.getElem?_eq_getElem hi]
        have := items.2 i (acc'.toList[i]) (by rw [← Array.getElem?_toList, List.getElem?_eq_getElem hi])
        rw [List.getElem?_reverse c]
        simpa using this.symm
      · rw [List.getElem?_eq_none (by rw [Array.length_toList, items.1, List.size_toArray]; omega), List.getElem?_eq_none (by rw [List.length_reverse]; omega)]
    have vals : Vals xs.reverse acc'.toList := by
      rw [ea]
      have key : ∀ {x : List V} {y : List Value}, Vals x y → Vals x.reverse y.reverse := by
        intro x y hxy
        induction hxy with
        | nil => exact .nil
        | cons h t ih => rw [List.reverse_cons, List.reverse_cons]; exact ih.append (.cons h .nil)
      exact key rv
    have kp1 : ∀ b o, s1.heap.get? b = some o → h'.get? b = some o := fun b o e => kp b o (Nat.ne_of_lt (Heap.lt_size e)) (Heap.get?_push_of_some _ e)
    have hsz : s1.heap.objs.size ≤ (s1.heap.push (revObj b ((its.toArray.size : Int) - 1))).objs.size := by show _ ≤ (s1.heap.objs.push _).size; rw [Array.size_push]; omega
    refine ⟨.ref _, _, I1.laid (t' := tk) kp1 hsz (show ObjOk X.prog X.w _ h' _ (.lst xs.reverse) from ⟨by rw [List.length_reverse]; exact hz, acc'.toList, c', vals, by simpa using e⟩), rfl, q _ (I1.hok.fresh hsz)⟩
theorem pex_cmp {op : CmpOp} {r : R2} {a b : Expr} {pos : Pos} {ta : TEX} {tb : TE} (ho : OpR X.nox (compareOp op) r) (ha : PEX X a ta) (hb : PE X.nox b tb) (hm : behindInMarks op b = false) :
    PEX X (.Compare a [op] [b] pos) (fun σ H Q E => ta σ H (fun x H1 => tb σ H1 fun y H2 => r x y H2 Q) E) := by
  intro pins s σ H Q E I h
  refine wpAny_Compare1 (wpAny_mono (ha pins s σ H _ E I h) (fun v s1 ⟨x, H1, I1, r1, q1⟩ => ?_) fun _ _ z => z) hm
  refine wpAny_mono (hb pins s1 σ H1 _ (I1.wish _) q1) (fun u s2 ⟨y, H2, I2, r2, q2⟩ => ?_) (fun _ _ z => False.elim z)
  exact wpAny_mono (ho pins s2 σ H2 x y v u Q I2 r1 r2 q2) (fun _ _ ⟨v', H', I', r', q'⟩ => ⟨v', H', I'.unwish, r', q'⟩) fun _ _ z => False.elim z
end
theorem cut_toV (xs : List V) {k : Nat} (h : k ≤ xs.length) : cutV xs none (some (k : Int)) = xs.take k := by
  unfold cutV
  rw [HT.sIx_nat, HT.sIx_none, List.drop_zero, Nat.min_eq_left h, Nat.sub_zero]
theorem cut_fromV (xs : List V) {k : Nat} (h : k ≤ xs.length) : cutV xs (some (k : Int)) none = xs.drop k := by
  unfold cutV
  rw [HT.sIx_nat, HT.sIx_none, Nat.min_eq_left h, List.take_of_length_le (by rw [List.length_drop]; omega)]
theorem Paired.revP {α β : Type} {F : α → β → Prop} : ∀ {a : List α} {b : List β}, Paired F a b → Paired F a.reverse b.reverse
  | _, _, .nil => .nil
  | _, _, .cons h t => by rw [List.reverse_cons, List.reverse_cons]; exact Paired.appP (Paired.revP t) (.cons h .nil)
theorem atR {rs : List Addr} {k : Nat} {a : Addr} (h : rs[k]? = some a) : atI (rs.map V.ref) (k : Int) = some (.ref a) := by
  have hk := (List.getElem?_eq_some_iff.mp h).1
  unfold atI
  rw [ixN_in (by omega) (by rw [List.length_map]; omega), Option.bind_some, Int.toNat_natCast, List.getElem?_map, h]; rfl
end L2
set_option Elab.async false
set_option linter.all false
set_option maxRecDepth 100000
set_option maxHeartbeats 5000000
namespace L2
open PySem PySem.Spec PyProof.Rows
theorem pick_vals {ns : List Int} {its : List Value} (r : Vals (ns.map V.int) its) : ∀ is : List Nat, Vals ((is.filterMap fun i => ns[i]?).map V.int) (is.filterMap fun i => its.toArray[i]?)
  | [] => .nil
  | i :: is => by
    have ih := pick_vals r is
    rw [List.filterMap_cons, List.filterMap_cons]
    have e : its.toArray[i]? = its[i]? := by simp
    cases h : ns[i]? with
    | none =>
      have hl := r.length
      rw [List.length_map] at hl
      have : its[i]? = none := List.getElem?_eq_none (by have := List.getElem?_eq_none_iff.mp h; omega)
      rw [e, this]
      exact ih
    | some v =>
      obtain ⟨u, hu, ru⟩ := r.get (i := i) (x := .int v) (by rw [List.getElem?_map, h]; rfl)
      rw [e, hu]
      exact .cons ru ih
section
variable {X : Cx} {e : Expr} {te : TE} {lo : Option Expr} {tl : TO} {pos p2 p3 : Pos}
end
end L2
set_option Elab.async false
set_option linter.all false
set_option maxRecDepth 100000
set_option maxHeartbeats 5000000
namespace L2
open PySem PySem.Spec PyProof.Rows PySem.SeqAt
end L2
namespace L2
open PySem PySem.Spec PyProof.Rows PySem.SeqAt
theorem cut_from1 (ns : List Int) : cutV (ns.map V.int) (some 1) none = (ns.drop 1).map V.int := by
  unfold cutV
  show ((ns.map V.int).drop (min 1 (ns.map V.int).length)).take ((ns.map V.int).length - min 1 (ns.map V.int).length) = _
  rw [List.length_map, ← List.map_drop, ← List.map_take]
  congr 1
  cases ns with
  | nil => rfl
  | cons x r =>
    rw [show min 1 (x :: r).length = 1 by rw [List.length_cons]; omega, List.take_of_length_le (by rw [List.length_drop]; omega)]
end L2
set_option Elab.async false
set_option linter.all false
set_option maxRecDepth 100000
set_option maxHeartbeats 5000000
namespace L2
open PySem PySem.Spec PyProof.Rows PySem.SeqAt
theorem iteT' {c A B : Prop} [Decidable c] (h : c) (a : A) : if c then A else B := by rw [if_pos h]; exact a
theorem iteF' {c A B : Prop} [Decidable c] (h : ¬ c) (b : B) : if c then A else B := by rw [if_neg h]; exact b
end L2
set_option Elab.async false
set_option linter.all false
set_option maxRecDepth 100000
set_option maxHeartbeats 5000000
namespace L2
open PySem PySem.Spec PyProof.Rows
theorem step_rng {lo n p s : Nat} (hs : 0 < s) (hp : 0 < p) (en : n = p * s) (hlo : lo < s) : sliceRange (sliceBounds (some (lo : Int)) none (some (s : Int)) n).1 (sliceBounds (some (lo : Int)) none (some (s : Int)) n).2.1 (sliceBounds (some (lo : Int)) none (some (s : Int)) n).2.2 = (List.range p).map fun t => lo + t * s := by
  have h0 : (sliceBounds (some (lo : Int)) none (some (s : Int)) n).1 = lo := by
    have : s ≤ n := by rw [en]; exact Nat.le_mul_of_pos_left s hp
    unfold sliceBounds
    simp only [Option.getD_some, show (s : Int) > 0 by omega, if_true]
    omega
  have h1 : (sliceBounds (some (lo : Int)) none (some (s : Int)) n).2.1 = n := by unfold sliceBounds; simp only [Option.getD_some, show (s : Int) > 0 by omega, if_true]
  have h2 : (sliceBounds (some (lo : Int)) none (some (s : Int)) n).2.2 = s := rfl
  rw [h0, h1, h2]
  unfold sliceRange
  simp only [show (s : Int) > 0 by omega, if_true]
  have sn : s ≤ n := by rw [en]; exact Nat.le_mul_of_pos_left s hp
  have ei : (n : Int) = p * s := by rw [en, Int.natCast_mul]
  have lt : (lo : Int) < n := by omega
  have cnt : ((n : Int) - lo + s - 1) / s = p := by
    rw [show (n : Int) - lo + s - 1 = (s - 1 - lo) + s * p by rw [ei, Int.mul_comm]; omega, Int.add_mul_ediv_left _ _ (by omega), Int.ediv_eq_zero_of_lt (by omega) (by omega)]; omega
  rw [if_pos lt, cnt, Int.toNat_natCast]
  refine List.map_congr_left fun k _ => ?_
  rw [Int.mul_comm, ← Int.natCast_mul, ← Int.natCast_add, Int.toNat_natCast]
theorem pick_at {ns : List Int} {n p s lo : Nat} (hn : ns.length = n) (en : n = p * s) (hlo : lo < s) : (((List.range p).map fun t => lo + t * s).filterMap fun i => ns[i]?) = (List.range p).map fun (t : Nat) => Ld.at' ns ((lo : Int) + (t : Int) * s) := by
  rw [List.filterMap_map]
  have key : ∀ k : Nat, k ≤ p → ((List.range k).filterMap ((fun i => ns[i]?) ∘ fun t => lo + t * s)) = (List.range k).map fun (t : Nat) => Ld.at' ns ((lo : Int) + (t : Int) * s) := by
    intro k
    induction k with
    | zero => intro _; rfl
    | succ k ih =>
      intro hk
      rw [List.range_succ, List.filterMap_append, ih (by omega), List.map_append]
      congr 1
      have b : lo + k * s < ns.length := by
        rw [hn, en]
        have : (k + 1) * s ≤ p * s := Nat.mul_le_mul_right _ hk
        rw [Nat.succ_mul] at this
        omega
      have e : ns[lo + k * s]? = some (Ld.at' ns ((lo + k * s : Nat) : Int)) := Ld.get_at b
      rw [Int.natCast_add, Int.natCast_mul] at e
      show List.filterMap ((fun i => ns[i]?) ∘ fun t => lo + t * s) [k] = _
      simp [e]
  exact key p (Nat.le_refl _)
section
variable {X : Cx} {e : Expr} {te : TE} {lo : Option Expr} {es : Expr} {tl ts : TO} {pos p2 p3 : Pos}
def tSlS (K : PySem.W.Frag) (te : TE) (tl ts : TO) : TE := fun σ H Q => te σ H fun x H1 => tl σ H1 fun l H2 => ts σ H2 fun st H3 => ∃ (a : Addr) (ns : List Int) (lo n p s : Nat), x = .ref a ∧ l = some (lo : Int) ∧ st = some (s : Int) ∧ SqL K H3 a (ns.map V.int) ∧ ns.length = n ∧ 0 < s ∧ 0 < p ∧ n = p * s ∧ lo < s ∧ ∀ q, H3 q = none → Q (.ref q) (upd H3 q (.lst (((List.range p).map fun (t : Nat) => Ld.at' ns ((lo : Int) + (t : Int) * s)).map V.int)))
theorem pe_sliceS {K : PySem.W.Frag} (hK : X.K = K) (he : PE X e te) (hl : PO X lo tl) (hst : PO X (some es) ts) : PE X (.Subscript e (.Slice lo none (some es) p2) pos) (tSlS K te tl ts) := by
  subst hK
  intro pins s σ H Q I h
  refine Subscript_ (thn (he pins s σ H _ I h) fun v s1 ⟨x, H1, I1, r1, q1⟩ => ?_)
  refine wpAny_Slice (thn (hl pins s1 σ H1 _ I1 q1) fun vl s2 ⟨l, H2, I2, pl, q2⟩ => ?_)
  rw [evalPart_none]
  refine wpAny_pure ?_
  refine thn (hst pins s2 σ H2 _ I2 q2) fun vt s3 ⟨t, H3, I3, pt, q3⟩ => ?_
  obtain ⟨a, ns, l0, n, pp, s0, rfl, el, est, hq, hn, hs0, hp0, en, hlo, q⟩ := q3
  subst el est
  cases r1
  obtain ⟨its, rv, ht, hz⟩ := I3.list hq
  have I4 : Inv X pins σ H3 { s3 with heap := s3.heap.push { cls := .type "slice", data := .fields #[vl, .none, vt] } } := I3.kept (t' := s3.toks) fun b ob q => Heap.get?_push_of_some _ q
  have ht4 : ({ s3 with heap := s3.heap.push { cls := .type "slice", data := .fields #[vl, .none, vt] } } : Shared).heap.IsList a its.toArray := by
    obtain ⟨its', rv', ht', _⟩ := I4.list hq
    have : its' = its := by
      have e1 := ht.isList
      obtain ⟨o, ho, hc, n, hd⟩ := e1
      obtain ⟨o', ho', hc', n', hd'⟩ := ht'.isList
      have ho2 := Heap.get?_push_of_some { cls := .type "slice", data := .fields #[vl, .none, vt] } ho
      rw [show (s3.heap.push { cls := .type "slice", data := .fields #[vl, .none, vt] }).get? a = _ from ho'] at ho2
      cases ho2
      rw [hd'] at hd
      injection hd with hd
      have := congrArg Array.toList hd
      simpa using this
    rw [← this]; exact ht'.isList
  have len := rv.length
  rw [List.length_map] at len
  show wpAny (model X.prog X.w) X.A (subscriptTail e (.Slice lo none (some es) p2) (.ref a) (.ref s3.heap.objs.size)) (EP X pins σ Q) X.xe { s3 with heap := s3.heap.push { cls := .type "slice", data := .fields #[vl, .none, vt] } }
  refine tail_any (ops := [.ref a, .ref s3.heap.objs.size]) (T := "list") ht4.typeIs slot_list_getitem.lookup ?_ (by with_unfolding_all rfl)
  rw [List.length_map] at hz
  refine wpAny_getItem_list_slice (st := some (s0 : Int)) ht4 (Heap.IsSliceOf.new ..) pl .none pt (by intro z; injection z with z; omega) ?_ (by rw [List.size_toArray, ← len]; exact hz)
  have esz : its.toArray.size = n := by rw [List.size_toArray, ← len, hn]
  have pv := pick_vals rv ((List.range pp).map fun t => l0 + t * s0)
  rw [pick_at hn en hlo] at pv
  unfold slicePick
  rw [esz, step_rng hs0 hp0 en hlo]
  have ml : (((List.range pp).map fun (t : Nat) => Ld.at' ns ((l0 : Int) + (t : Int) * s0)).map V.int).length ≤ sizeLine := by
    rw [List.length_map, List.length_map, List.length_range]
    have : pp * 1 ≤ pp * s0 := Nat.mul_le_mul_left _ hs0
    omega
  refine ⟨.ref _, _, I4.laid (t' := s3.toks) (o := .lst (((List.range pp).map fun (t : Nat) => Ld.at' ns ((l0 : Int) + (t : Int) * s0)).map V.int)) (fun b ob q => Heap.get?_push_of_some _ q) (Nat.le_refl _) ?_, rfl, q _ (I4.hok.fresh (Nat.le_refl _))⟩
  exact ⟨ml, _, 0, pv, Heap.get?_push_size _ rfl⟩
end
end L2
set_option Elab.async false
set_option linter.all false
set_option maxRecDepth 100000
set_option maxHeartbeats 5000000
namespace L2
open PySem PySem.Spec PyProof.Rows PySem.SeqAt
abbrev kS (s : Str) : Key := .inr s
theorem DPut.s {H : Hp} {a : Addr} {kvs : List (Key × V)} {i : Str} {v : V} (e : H a = some (.dK kvs)) (hl : kvs.length < sizeLine) : DPut H a (.str i) v (upd H a (.dK (putK kvs (kS i) v))) := DPut.k (k := kS i) e hl
end L2
set_option Elab.async false
set_option linter.all false
set_option maxRecDepth 100000
set_option maxHeartbeats 5000000
namespace L2
open PySem PySem.Spec PyProof.Rows PySem.SeqAt
section
variable {X : Cx} {ev : Expr} {a b : Str} {i : Int} {ja jb} {pa pb pf pos : Pos}
end
end L2
set_option Elab.async false
set_option linter.all false
set_option maxRecDepth 100000
set_option maxHeartbeats 5000000
namespace L2
open PySem PySem.Spec PyProof.Rows
end L2
namespace Pt
def NoDiv (m b : Int) : Prop := ∀ d, 2 ≤ d → d < b → ¬ d ∣ m
def Prm (p : Int) : Prop := 2 ≤ p ∧ ∀ d, 2 ≤ d → d < p → ¬ d ∣ p
def IsPow (p q : Int) : Prop := ∃ e : Nat, q = p ^ (e + 1)
def Prd : List (Int × Int) → Int
  | [] => 1
  | a :: r => a.2 * Prd r
theorem pow1 (a : Int) : a ^ (0 + 1) = a := by rw [Int.pow_succ, Int.pow_zero, Int.one_mul]
theorem Prd_append : ∀ (a b : List (Int × Int)), Prd (a ++ b) = Prd a * Prd b
  | [], b => by simp [Prd]
  | x :: r, b => by simp [Prd, Prd_append r b, Int.mul_assoc]
structure Row (x : Int × Int) : Prop where
  pr : Prm x.1
  pw : IsPow x.1 x.2
structure PInv (n : Int) (ps : List (Int × Int)) (left p : Int) : Prop where
  prd : Prd ps * left = n
  nod : NoDiv left p
  row : ∀ x ∈ ps, Row x
  low : ∀ x ∈ ps, x.1 < p
  srt : ps.Pairwise fun a b => a.1 < b.1
structure Parts (n : Int) (ps : List (Int × Int)) : Prop where
  prd : Prd ps = n
  row : ∀ x ∈ ps, Row x
  srt : ps.Pairwise fun a b => a.1 < b.1
theorem start (n : Int) : PInv n [] n 2 :=
  ⟨by simp [Prd], fun d h1 h2 => by omega, fun x h => (nomatch h), fun x h => (nomatch h), List.Pairwise.nil⟩
structure QInv (m p q : Int) : Prop where
  pos : 1 ≤ q
  pw : ∃ e : Nat, q = p ^ e
  dv : q ∣ m
theorem q0 (m p : Int) : QInv m p 1 := ⟨by omega, ⟨0, by simp⟩, Int.one_dvd m⟩
theorem q1 {m p q : Int} (hp : 2 ≤ p) (h : QInv m p q) (d : m % (q * p) = 0) : QInv m p (q * p) := by
  obtain ⟨h1, ⟨e, he⟩, h3⟩ := h
  have := Int.mul_le_mul_of_nonneg_left hp (show 0 ≤ q by omega)
  exact ⟨by omega, ⟨e + 1, by rw [he, Int.pow_succ]⟩, Int.dvd_of_emod_eq_zero d⟩
theorem q_le {m p q : Int} (hm : 1 ≤ m) (h : QInv m p q) : q ≤ m := Int.le_of_dvd (by omega) h.dv
theorem q_grow {p q : Int} (hp : 2 ≤ p) (h : 1 ≤ q) : q < q * p := by
  have := Int.mul_le_mul_of_nonneg_left hp (show 0 ≤ q by omega)
  omega
structure QEnd (m p q : Int) : Prop where
  inv : QInv m p q
  no : ¬ q * p ∣ m
theorem q2 {m p q : Int} (h : QInv m p q) (d : ¬ m % (q * p) = 0) : QEnd m p q := ⟨h, fun z => d (Int.emod_eq_zero_of_dvd z)⟩
theorem turnB {n : Int} {ps : List (Int × Int)} {left p q : Int} (h : PInv n ps left p) (hq : QEnd left p q) (h1 : ¬ q > 1) : PInv n ps left (p + 1) := by
  have e : q = 1 := by have := hq.inv.pos; omega
  have no : ¬ p ∣ left := by have := hq.no; rw [e, Int.one_mul] at this; exact this
  refine ⟨h.prd, fun d h2 h3 => ?_, h.row, fun x hx => by have := h.low x hx; omega, h.srt⟩
  by_cases c : d = p
  · rw [c]; exact no
  · exact h.nod d h2 (by omega)
theorem turnA {n : Int} {ps : List (Int × Int)} {left p q : Int} (hp : 2 ≤ p) (h : PInv n ps left p) (hq : QEnd left p q) (h1 : q > 1) : PInv n (ps ++ [(p, q)]) (left / q) (p + 1) := by
  obtain ⟨⟨q1, ⟨e, he⟩, ⟨c, hc⟩⟩, no⟩ := hq
  have ec : left / q = c := by rw [hc]; exact Int.mul_ediv_cancel_left c (by omega)
  cases e with
  | zero => rw [he] at h1; simp at h1
  | succ e =>
    have pq : p ∣ q := by rw [he, Int.pow_succ]; exact Int.dvd_mul_left _ _
    have pl : p ∣ left := Int.dvd_trans pq ⟨c, hc⟩
    have cl : c ∣ left := ⟨q, by rw [hc, Int.mul_comm]⟩
    have prm : Prm p := ⟨hp, fun d h2 h3 z => h.nod d h2 h3 (Int.dvd_trans z pl)⟩
    refine ⟨?_, ?_, ?_, ?_, ?_⟩
    · rw [Prd_append, ec]; simp only [Prd, Int.mul_one]
      rw [Int.mul_assoc, ← hc]; exact h.prd
    · rw [ec]
      intro d h2 h3 z
      by_cases k : d = p
      · apply no
        obtain ⟨f, hf⟩ := z
        exact ⟨f, by rw [hc, hf, k, Int.mul_assoc]⟩
      · exact h.nod d h2 (by omega) (Int.dvd_trans z cl)
    · intro x hx
      rcases List.mem_append.mp hx with hx | hx
      · exact h.row x hx
      · obtain rfl := List.mem_singleton.mp hx
        exact ⟨prm, ⟨e, he⟩⟩
    · intro x hx
      rcases List.mem_append.mp hx with hx | hx
      · have := h.low x hx; omega
      · obtain rfl := List.mem_singleton.mp hx
        show p < p + 1; omega
    · rw [List.pairwise_append]
      refine ⟨h.srt, List.pairwise_singleton _ _, fun a ha b hb => ?_⟩
      obtain rfl := List.mem_singleton.mp hb
      exact h.low a ha
theorem left_pos {left q : Int} (h : 1 ≤ left) (hd : q ∣ left) (hq : 1 ≤ q) : 1 ≤ left / q ∧ left / q ≤ left := by
  obtain ⟨c, hc⟩ := hd
  have ec : left / q = c := by rw [hc]; exact Int.mul_ediv_cancel_left c (by omega)
  rw [ec]
  have cp : 1 ≤ c := by
    rcases Int.lt_or_le 0 c with z | z
    · omega
    · have := Int.mul_le_mul_of_nonneg_left z (show 0 ≤ q by omega)
      omega
  have := Int.mul_le_mul_of_nonneg_right hq (show 0 ≤ c by omega)
  omega
theorem prm_left {left p : Int} (hp : 2 ≤ p) (h : NoDiv left p) (hb : ¬ p * p ≤ left) (h1 : left > 1) : Prm left ∧ p ≤ left := by
  have pl : p ≤ left := by
    rcases Int.lt_or_le left p with z | z
    · exact absurd (Int.dvd_refl left) (h left (by omega) z)
    · exact z
  refine ⟨⟨by omega, fun d h2 h3 hd => ?_⟩, pl⟩
  obtain ⟨c, hc⟩ := id hd
  by_cases dp : d < p
  · exact h d h2 dp hd
  · have c2 : 2 ≤ c := by
      rcases Int.lt_or_le c 2 with z | z
      · have : c ≤ 1 := by omega
        have := Int.mul_le_mul_of_nonneg_left this (show 0 ≤ d by omega)
        omega
      · exact z
    by_cases cp : c < p
    · exact h c c2 cp ⟨d, by rw [hc, Int.mul_comm]⟩
    · have a1 := Int.mul_le_mul_of_nonneg_left (show p ≤ c by omega) (show 0 ≤ d by omega)
      have a2 := Int.mul_le_mul_of_nonneg_right (show p ≤ d by omega) (show 0 ≤ p by omega)
      omega
theorem endA {n : Int} {ps : List (Int × Int)} {left p : Int} (hp : 2 ≤ p) (h : PInv n ps left p) (hb : ¬ p * p ≤ left) (h1 : left > 1) : Parts n (ps ++ [(left, left)]) := by
  obtain ⟨pr, pl⟩ := prm_left hp h.nod hb h1
  refine ⟨?_, ?_, ?_⟩
  · rw [Prd_append]; simp only [Prd, Int.mul_one]; exact h.prd
  · intro x hx
    rcases List.mem_append.mp hx with hx | hx
    · exact h.row x hx
    · obtain rfl := List.mem_singleton.mp hx
      exact ⟨pr, ⟨0, (pow1 left).symm⟩⟩
  · rw [List.pairwise_append]
    refine ⟨h.srt, List.pairwise_singleton _ _, fun a ha b hb => ?_⟩
    obtain rfl := List.mem_singleton.mp hb
    have := h.low a ha
    show a.1 < left; omega
theorem endB {n : Int} {ps : List (Int × Int)} {left p : Int} (h : PInv n ps left p) (h0 : 1 ≤ left) (h1 : ¬ left > 1) : Parts n ps := by
  have : left = 1 := by omega
  refine ⟨?_, h.row, h.srt⟩
  have := h.prd
  rw [‹left = 1›, Int.mul_one] at this
  exact this
structure RInv (p q r : Int) : Prop where
  ex : ∃ k e : Nat, r = p ^ (k + 1) ∧ q = p ^ (e + 1) ∧ k ≤ e
theorem r0 {p q : Int} (h : IsPow p q) : RInv p q p := by
  obtain ⟨e, he⟩ := h
  exact ⟨0, e, (pow1 p).symm, he, Nat.zero_le _⟩
theorem pow_pos' {p : Int} (hp : 2 ≤ p) (k : Nat) : 1 ≤ p ^ k := by
  induction k with
  | zero => simp
  | succ k ih =>
    rw [Int.pow_succ]
    have := Int.mul_le_mul_of_nonneg_left hp (show 0 ≤ p ^ k by omega)
    omega
theorem pow_mono {p : Int} (hp : 2 ≤ p) {k e : Nat} (h : k ≤ e) : p ^ k ≤ p ^ e := by
  obtain ⟨d, rfl⟩ := Nat.exists_eq_add_of_le h
  rw [Int.pow_add]
  have a := pow_pos' hp k
  have := Int.mul_le_mul_of_nonneg_left (pow_pos' hp d) (show 0 ≤ p ^ k by omega)
  omega
theorem r1 {p q r : Int} (hp : 2 ≤ p) (h : RInv p q r) (hl : r < q) : RInv p q (r * p) := by
  obtain ⟨k, e, hr, hq, hk⟩ := h
  refine ⟨k + 1, e, by rw [hr, ← Int.pow_succ], hq, ?_⟩
  rcases Nat.lt_or_ge k e with z | z
  · exact z
  · have : k = e := by omega
    rw [hr, hq, this] at hl; omega
theorem r_pos {p q r : Int} (hp : 2 ≤ p) (h : RInv p q r) : 1 ≤ r ∧ r ≤ q := by
  obtain ⟨k, e, hr, hq, hk⟩ := h
  rw [hr, hq]
  exact ⟨pow_pos' hp _, pow_mono hp (by omega)⟩
theorem r2 {p q r : Int} (hp : 2 ≤ p) (h : RInv p q r) (hl : ¬ r < q) : r = q := by
  have := r_pos hp h; omega
theorem row_le {x : Int × Int} (h : Row x) : 2 ≤ x.1 ∧ x.1 ≤ x.2 := by
  obtain ⟨e, he⟩ := h.pw
  refine ⟨h.pr.1, ?_⟩
  have a := pow_mono h.pr.1 (show 0 + 1 ≤ e + 1 by omega)
  rw [← he, pow1] at a
  exact a
theorem Prd_pos : ∀ (ps : List (Int × Int)), (∀ x ∈ ps, Row x) → 1 ≤ Prd ps
  | [], _ => by simp [Prd]
  | x :: r, h => by
    have a := row_le (h x List.mem_cons_self)
    have b := Prd_pos r fun y hy => h y (List.mem_cons_of_mem _ hy)
    have c := Int.mul_le_mul_of_nonneg_right (show 1 ≤ x.2 by omega) (show 0 ≤ Prd r by omega)
    simp only [Prd]; omega
theorem le_Prd : ∀ (ps : List (Int × Int)), (∀ x ∈ ps, Row x) → ∀ x ∈ ps, x.2 ≤ Prd ps
  | [], _, _, h => nomatch h
  | y :: r, h, x, hx => by
    have a := row_le (h y List.mem_cons_self)
    have h' : ∀ z ∈ r, Row z := fun z hz => h z (List.mem_cons_of_mem _ hz)
    have b := Prd_pos r h'
    simp only [Prd]
    rcases List.mem_cons.mp hx with e | e
    · rw [e]
      have c := Int.mul_le_mul_of_nonneg_left b (show 0 ≤ y.2 by omega)
      omega
    · have i := le_Prd r h' x e
      have c := Int.mul_le_mul_of_nonneg_right (show 1 ≤ y.2 by omega) (show 0 ≤ Prd r by omega)
      omega
end Pt
namespace Pt
theorem copr {p a : Int} (hp : Prm p) (h : ¬ p ∣ a) : Nat.Coprime p.natAbs a.natAbs := by
  have g1 : (Nat.gcd p.natAbs a.natAbs) ∣ p.natAbs := Nat.gcd_dvd_left _ _
  have g2 : (Nat.gcd p.natAbs a.natAbs) ∣ a.natAbs := Nat.gcd_dvd_right _ _
  have e1 : ((Nat.gcd p.natAbs a.natAbs : Nat) : Int) ∣ p := Int.ofNat_dvd_left.mpr g1
  have e2 : ((Nat.gcd p.natAbs a.natAbs : Nat) : Int) ∣ a := Int.ofNat_dvd_left.mpr g2
  have p2 := hp.1
  have gp : 0 < Nat.gcd p.natAbs a.natAbs := Nat.gcd_pos_of_pos_left _ (by omega)
  have gl : ((Nat.gcd p.natAbs a.natAbs : Nat) : Int) ≤ p := Int.le_of_dvd (by omega) e1
  show Nat.gcd p.natAbs a.natAbs = 1
  rcases Nat.lt_or_ge (Nat.gcd p.natAbs a.natAbs) 2 with z | z
  · omega
  · rcases Int.lt_or_le ((Nat.gcd p.natAbs a.natAbs : Nat) : Int) p with y | y
    · exact absurd e1 (hp.2 _ (by omega) y)
    · have : ((Nat.gcd p.natAbs a.natAbs : Nat) : Int) = p := by omega
      rw [this] at e2
      exact absurd e2 h
theorem euclid {p a b : Int} (hp : Prm p) (h : p ∣ a * b) : p ∣ a ∨ p ∣ b := by
  by_cases c : p ∣ a
  · exact .inl c
  · right
    have q := copr hp c
    have h' : p.natAbs ∣ a.natAbs * b.natAbs := by rw [← Int.natAbs_mul]; exact Int.natAbs_dvd_natAbs.mpr h
    exact Int.natAbs_dvd_natAbs.mp (q.dvd_of_dvd_mul_left h')
theorem prm_pow {p r : Int} (hp : Prm p) (hr : Prm r) : ∀ e : Nat, p ∣ r ^ e → p = r
  | 0, h => by
    have := Int.le_of_dvd (show (0:Int) < 1 by decide) (show p ∣ 1 by simpa using h)
    have := hp.1; omega
  | e + 1, h => by
    rw [Int.pow_succ] at h
    rcases euclid hp h with z | z
    · exact prm_pow hp hr e z
    · have l := Int.le_of_dvd (by have := hr.1; omega) z
      rcases Int.lt_or_le p r with y | y
      · exact absurd z (hr.2 p hp.1 y)
      · omega
theorem prm_Prd {p : Int} (hp : Prm p) : ∀ (ps : List (Int × Int)), (∀ x ∈ ps, Row x) → p ∣ Prd ps → ∃ x ∈ ps, x.1 = p
  | [], _, h => by
    have := Int.le_of_dvd (by decide) (show p ∣ 1 from h)
    have := hp.1; omega
  | x :: r, h, d => by
    have d' : p ∣ x.2 * Prd r := d
    rcases euclid hp d' with z | z
    · obtain ⟨e, he⟩ := (h x List.mem_cons_self).pw
      rw [he] at z
      exact ⟨x, List.mem_cons_self, (prm_pow hp (h x List.mem_cons_self).pr _ z).symm⟩
    · obtain ⟨y, hy, e⟩ := prm_Prd hp r (fun y hy => h y (List.mem_cons_of_mem _ hy)) z
      exact ⟨y, List.mem_cons_of_mem _ hy, e⟩
theorem pow_ne {p : Int} (hp : 2 ≤ p) (k : Nat) : p ^ k ≠ 0 := by have := pow_pos' hp k; omega
theorem pow_dvd {p : Int} {j e : Nat} (h : j + 1 ≤ e) : p ^ (j + 1) ∣ p ^ e := by
  obtain ⟨d, rfl⟩ := Nat.exists_eq_add_of_le h
  rw [Int.pow_add p (j + 1) d]; exact Int.dvd_mul_right _ _
end Pt
namespace Pt
def IsSign (n s : Int) : Prop :=
  ((∃ p, Prm p ∧ p * p ∣ n) ∧ s = 0) ∨ ((∀ p, Prm p → ¬ p * p ∣ n) ∧ ∃ l : List Int, l.Nodup ∧ (∀ p, p ∈ l ↔ Prm p ∧ p ∣ n) ∧ s = (-1) ^ l.length)
open Classical in
noncomputable def mu (n : Int) : Int := if h : ∃ s, IsSign n s then Classical.choose h else 0
theorem take_snoc {α : Type} {ps : List α} {i : Nat} {x : α} (h : ps[i]? = some x) : ps.take (i + 1) = ps.take i ++ [x] := by rw [List.take_add_one, h]; rfl
theorem sum_zero {l : List Int} {f : Int → Int} (h : ∀ d ∈ l, f d = 0) : (l.map f).sum = 0 := by
  induction l with
  | nil => rfl
  | cons x r ih =>
    have a := h x List.mem_cons_self
    have b := ih fun d hd => h d (List.mem_cons_of_mem _ hd)
    simp only [List.map_cons, List.sum_cons]; omega
end Pt
namespace Pt
theorem Prd_split {ps : List (Int × Int)} {x : Int × Int} (h : x ∈ ps) (srt : ps.Pairwise fun a b => a.1 < b.1) (row : ∀ y ∈ ps, Row y) : ∃ m, Prd ps = x.2 * m ∧ ¬ x.1 ∣ m ∧ 1 ≤ m := by
  obtain ⟨a, b, rfl⟩ := List.append_of_mem h
  rw [List.pairwise_append, List.pairwise_cons] at srt
  have ra : ∀ y ∈ a, Row y := fun y hy => row y (List.mem_append_left _ hy)
  have rb : ∀ y ∈ b, Row y := fun y hy => row y (List.mem_append_right _ (List.mem_cons_of_mem _ hy))
  have rx := row x h
  refine ⟨Prd a * Prd b, ?_, fun z => ?_, ?_⟩
  · rw [Prd_append]; simp only [Prd]; rw [Int.mul_left_comm]
  · rcases euclid rx.pr z with z | z
    · obtain ⟨y, hy, e⟩ := prm_Prd rx.pr a ra z
      have := srt.2.2 y hy x List.mem_cons_self
      omega
    · obtain ⟨y, hy, e⟩ := prm_Prd rx.pr b rb z
      have := srt.2.1.1 y hy
      omega
  · have := Int.mul_le_mul (Prd_pos a ra) (Prd_pos b rb) (by omega) (by have := Prd_pos a ra; omega)
    omega
theorem part_iff {n : Int} {ps : List (Int × Int)} (h : Parts n ps) (x : Int × Int) : x ∈ ps ↔ Prm x.1 ∧ x.1 ∣ n ∧ IsPow x.1 x.2 ∧ x.2 ∣ n ∧ ¬ x.2 * x.1 ∣ n := by
  constructor
  · intro hx
    have rx := h.row x hx
    obtain ⟨m, e, nd, m1⟩ := Prd_split hx h.srt h.row
    rw [h.prd] at e
    obtain ⟨k, hk⟩ := rx.pw
    have dq : x.2 ∣ n := ⟨m, e⟩
    refine ⟨rx.pr, Int.dvd_trans ?_ dq, rx.pw, dq, fun z => nd ?_⟩
    · rw [hk, Int.pow_succ]; exact Int.dvd_mul_left _ _
    · rw [e] at z
      exact Int.dvd_of_mul_dvd_mul_left (by have := row_le rx; omega) z
  · rintro ⟨pr, d, ⟨k, hk⟩, dq, nd⟩
    rw [← h.prd] at d
    obtain ⟨y, hy, e⟩ := prm_Prd pr ps h.row d
    obtain ⟨m, e2, nm, m1⟩ := Prd_split hy h.srt h.row
    rw [h.prd] at e2
    obtain ⟨j, hj⟩ := (h.row y hy).pw
    rw [e] at hj nm
    have p2 := pr.1
    have le : ∀ {a b : Nat} {c : Int}, ¬ x.1 ∣ c → x.1 ^ a ∣ x.1 ^ b * c → a ≤ b := by
      intro a b c hc hd
      rcases Nat.lt_or_ge b a with z | z
      · obtain ⟨t, rfl⟩ := Nat.exists_eq_add_of_le z
        rw [show b + 1 + t = b + (t + 1) by omega, Int.pow_add] at hd
        have := Int.dvd_of_mul_dvd_mul_left (pow_ne p2 b) hd
        exact absurd (Int.dvd_trans ⟨x.1 ^ t, by rw [Int.pow_succ, Int.mul_comm]⟩ this) hc
      · exact z
    have k1 : k + 1 ≤ j + 1 := le nm (by rw [← hj, ← e2, ← hk]; exact dq)
    have k2 : ¬ k + 1 + 1 ≤ j + 1 := fun z => nd (by
      rw [hk, ← Int.pow_succ, e2, hj]
      exact Int.dvd_trans (pow_dvd z) (Int.dvd_mul_right _ _))
    have : k = j := by omega
    have q : x = y := Prod.ext e.symm (by rw [hk, hj, this])
    rw [q]; exact hy
theorem pairs_eq : ∀ {a b : List (Int × Int)}, a.Pairwise (fun x y => x.1 < y.1) → b.Pairwise (fun x y => x.1 < y.1) → (∀ x, x ∈ a ↔ x ∈ b) → a = b
  | [], [], _, _, _ => rfl
  | [], y :: b, _, _, h => by have := (h y).mpr List.mem_cons_self; cases this
  | x :: a, [], _, _, h => by have := (h x).mp List.mem_cons_self; cases this
  | x :: a, y :: b, ha, hb, h => by
    rw [List.pairwise_cons] at ha hb
    have e : x = y := by
      have h1 := (h x).mp List.mem_cons_self
      have h2 := (h y).mpr List.mem_cons_self
      rcases List.mem_cons.mp h1 with e | e
      · exact e
      · rcases List.mem_cons.mp h2 with f | f
        · exact f.symm
        · have := hb.1 x e; have := ha.1 y f; omega
    subst e
    congr 1
    refine pairs_eq ha.2 hb.2 fun z => ?_
    have q := h z
    rw [List.mem_cons, List.mem_cons] at q
    constructor
    · intro hz
      rcases q.mp (.inr hz) with e | e
      · subst e; have := ha.1 z hz; omega
      · exact e
    · intro hz
      rcases q.mpr (.inr hz) with e | e
      · subst e; have := hb.1 z hz; omega
      · exact e
theorem parts_one {n : Int} {a b : List (Int × Int)} (ha : Parts n a) (hb : Parts n b) : a = b := pairs_eq ha.srt hb.srt fun x => by rw [part_iff ha, part_iff hb]
def cnt (n : Nat) : Nat → Nat
  | 0 => 0
  | d + 1 => cnt n d + (bif Nat.beq (n % (d + 1)) 0 then (bif Nat.blt ((d + 1) * (d + 1)) n then 2 else bif Nat.beq ((d + 1) * (d + 1)) n then 1 else 0) else 0)
def rt (n : Nat) : Nat → Nat
  | 0 => 0
  | d + 1 => bif Nat.ble ((d + 1) * (d + 1)) n then d + 1 else rt n d
end Pt
namespace Eh
def G (a b : Int) : Int := (Int.gcd a b : Nat)
def ab (a : Int) : Int := if a < 0 then -a else a
theorem ab_nat (a : Int) : ab a = (a.natAbs : Int) := by unfold ab; split <;> omega
theorem G_ab (a b : Int) : G (ab a) (ab b) = G a b := by
  unfold G; rw [ab_nat, ab_nat]
  simp [Int.gcd]
theorem start (a b : Int) : 0 ≤ ab a ∧ 0 ≤ ab b ∧ G (ab a) (ab b) = G a b := by
  refine ⟨?_, ?_, G_ab a b⟩ <;> (rw [ab_nat]; omega)
theorem turn {a b g s : Int} (hg : 0 ≤ g) (hs : 0 ≤ s) (h : G g s = G a b) (ne : ¬ s = 0) :
    0 ≤ s ∧ 0 ≤ Int.fmod g s ∧ G s (Int.fmod g s) = G a b := by
  have e := Int.fmod_eq_emod_of_nonneg g hs
  refine ⟨hs, ?_, ?_⟩
  · rw [e]; exact Int.emod_nonneg _ ne
  · rw [e, ← h]
    unfold G
    congr 1
    obtain ⟨m, rfl⟩ := Int.eq_ofNat_of_zero_le hg
    obtain ⟨n, rfl⟩ := Int.eq_ofNat_of_zero_le hs
    rw [← Int.natCast_emod]
    show Nat.gcd n (m % n) = Nat.gcd m n
    rw [Nat.gcd_comm n, ← Nat.gcd_rec, Nat.gcd_comm]
theorem less {g s : Int} (hs : 0 ≤ s) (ne : ¬ s = 0) : (Int.fmod g s).toNat < s.toNat := by
  have e := Int.fmod_eq_emod_of_nonneg g hs
  have := Int.emod_lt_of_pos g (show 0 < s by omega)
  have := Int.emod_nonneg g ne
  omega
theorem out {a b g s : Int} (hg : 0 ≤ g) (h : G g s = G a b) (z : s = 0) : g = G a b := by
  subst z
  unfold G at *
  have : Int.gcd g 0 = g.natAbs := Int.gcd_zero_right g
  omega
end Eh
namespace Eh
end Eh
namespace Eh
structure Bk (st n r c lr lc : Int) : Prop where
  g : G r lr = G st n
  x : ∃ x, r = st * c + n * x
  y : ∃ y, lr = st * lc + n * y
theorem bk0 {st n : Int} (hn : 0 < n) : 0 ≤ n ∧ 0 ≤ Int.fmod st n ∧ Int.fmod st n < n + 1 ∧ Bk st n n 0 (Int.fmod st n) 1 := by
  have e := Int.fmod_eq_emod_of_nonneg st (Int.le_of_lt hn)
  have h0 := Int.emod_nonneg st (show n ≠ 0 by omega)
  have h1 := Int.emod_lt_of_pos st hn
  refine ⟨by omega, by omega, by omega, ?_, ⟨1, ?_⟩, ⟨-(st / n), ?_⟩⟩
  · rw [e]; unfold G; congr 1
    have d := Int.emod_add_mul_ediv st n
    have q : Int.gcd n (st % n + n * (st / n)) = Int.gcd n (st % n) := Int.gcd_add_mul_left_right ..
    rw [d] at q
    rw [← q, Int.gcd_comm]
  · simp
  · rw [e, Int.mul_neg, Int.mul_one]
    have := Int.emod_add_mul_ediv st n
    omega
theorem bkt {st n r c lr lc : Int} (hr : 0 ≤ r) (h0 : 0 ≤ lr) (ne : ¬ lr = 0) (h : Bk st n r c lr lc) :
    0 ≤ lr ∧ 0 ≤ r - Int.fdiv r lr * lr ∧ Bk st n lr lc (r - Int.fdiv r lr * lr) (c - Int.fdiv r lr * lc) := by
  have e := Int.fdiv_eq_ediv_of_nonneg r h0
  rw [e]
  have m : r - r / lr * lr = r % lr := by
    have := Int.emod_add_mul_ediv r lr
    rw [Int.mul_comm] at this; omega
  rw [m]
  obtain ⟨hg, ⟨x, hx⟩, ⟨y, hy⟩⟩ := h
  have t := turn hr h0 hg ne
  have f := Int.fmod_eq_emod_of_nonneg r h0
  rw [f] at t
  refine ⟨h0, t.2.1, t.2.2, ⟨y, hy⟩, ⟨x - r / lr * y, ?_⟩⟩
  rw [← m, Int.mul_sub, Int.mul_sub]
  have a1 : st * (r / lr * lc) = r / lr * (st * lc) := by rw [Int.mul_left_comm]
  have a2 : n * (r / lr * y) = r / lr * (n * y) := by rw [Int.mul_left_comm]
  have a3 : r / lr * lr = r / lr * (st * lc) + r / lr * (n * y) := by rw [← Int.mul_add, ← hy]
  omega
theorem bkless {r lr : Int} (h0 : 0 ≤ lr) (ne : ¬ lr = 0) : (r - Int.fdiv r lr * lr).toNat < lr.toNat := by
  have e := Int.fdiv_eq_ediv_of_nonneg r h0
  rw [e]
  have m : r - r / lr * lr = r % lr := by
    have := Int.emod_add_mul_ediv r lr
    rw [Int.mul_comm] at this; omega
  rw [m]
  have := Int.emod_lt_of_pos r (show 0 < lr by omega)
  have := Int.emod_nonneg r ne
  omega
end Eh
namespace Eh
theorem bk0E {st n : Int} (hn : 0 < n) : 0 ≤ st % n ∧ st % n < n ∧ Bk st n n 0 (st % n) 1 := by
  have h := bk0 (st := st) hn
  rw [Int.fmod_eq_emod_of_nonneg st (Int.le_of_lt hn)] at h
  exact ⟨h.2.1, Int.emod_lt_of_pos st hn, h.2.2.2⟩
theorem bktE {st n r c lr lc : Int} (hr : 0 ≤ r) (h0 : 0 ≤ lr) (ne : ¬ lr = 0) (h : Bk st n r c lr lc) :
    0 ≤ r - r / lr * lr ∧ (r - r / lr * lr) < lr ∧ (r - r / lr * lr).toNat < lr.toNat ∧ Bk st n lr lc (r - r / lr * lr) (c - r / lr * lc) := by
  have t := bkt hr h0 ne h
  have l := bkless (r := r) h0 ne
  rw [Int.fdiv_eq_ediv_of_nonneg r h0] at t l
  refine ⟨t.2.1, by omega, l, t.2.2⟩
def us (n : Int) (i : Nat) : List Int := ((List.range i).map fun (j : Nat) => (1 + (j : Int))).filter fun k => decide (G k n = 1)
end Eh
set_option linter.all false
namespace Ld
def tab (n : Nat) (F : Int → Int) : List Int := (List.range n).map fun x : Nat => F x
theorem tab_len (n : Nat) (F : Int → Int) : (tab n F).length = n := by simp [tab]
theorem at_tab {n : Nat} {F : Int → Int} (hn : 0 < n) (hF : Per n F) (x : Int) : at' (tab n F) x = F x := by
  have e := at_get (a := tab n F) (x := x) (by rw [tab_len]; exact hn)
  rw [tab_len] at e
  unfold tab at e
  rw [List.getElem?_map, List.getElem?_range (hole_lt hn x)] at e
  have e' := Option.some.inj e
  unfold tab
  rw [← e']
  show F (((x % n).toNat : Nat) : Int) = _
  rw [hole_eq hn]
  exact hF.md x
theorem bez {st n : Int} : ∀ (m : Nat) (r c lr lc : Int), lr.toNat = m → 0 ≤ r → 0 ≤ lr → Eh.Bk st n r c lr lc → ∃ c' x, Eh.G st n = st * c' + n * x := by
  intro m
  induction m using Nat.strongRecOn with
  | ind m ih =>
    intro r c lr lc hm hr h0 h
    by_cases z : lr = 0
    · obtain ⟨hg, ⟨x, hx⟩, _⟩ := h
      have := Eh.out hr hg z
      exact ⟨c, x, by rw [← this]; exact hx⟩
    · have t := Eh.bktE hr h0 z h
      exact ih _ (by rw [← hm]; exact t.2.2.1) _ _ _ _ rfl h0 t.1 t.2.2.2
theorem inv_of {st : Int} {n : Nat} (hn : 0 < n) (g : Eh.G st n = 1) : ∃ v, (st * v) % n = 1 % n := by
  have b := Eh.bk0E (st := st) (n := n) (by omega)
  obtain ⟨c, x, e⟩ := bez _ _ _ _ _ rfl (by omega) b.1 b.2.2
  refine ⟨c, ?_⟩
  rw [g] at e
  rw [e, Int.add_mul_emod_self_left]
def turned (a : List Int) (far : Int) : List Int := tab a.length fun x => at' a (x - far)
theorem turned_len (a : List Int) (far : Int) : (turned a far).length = a.length := tab_len _ _
theorem per_sub {a : List Int} {n : Nat} (h : a.length = n) (c : Int) : Per n fun x => at' a (x - c) := fun x y e => at_per' h _ _ (by rw [Int.sub_emod, e, ← Int.sub_emod])
theorem at_turned {a : List Int} (hn : 0 < a.length) (far x : Int) : at' (turned a far) x = at' a (x - far) := at_tab hn (per_sub rfl far) x
structure Skp (n : Nat) (st : Int) (a o : List Int) : Prop where
  la : a.length = n
  lo : o.length = n
  at_ : ∀ x : Int, at' o (x * st) = at' a x
theorem Skp.val {n : Nat} {st v : Int} {a o : List Int} (h : Skp n st a o) (hv : (st * v) % n = 1 % n) (y : Int) : at' o y = at' a (y * v) := by
  rw [← h.at_]
  refine at_per' h.lo _ _ ?_
  rw [Int.mul_assoc, Int.mul_comm v st, Int.mul_emod, hv, ← Int.mul_emod, Int.mul_one]
theorem Skp.conv {n : Nat} (hn : 0 < n) {s v : Int} {a b l r : List Int} (h : Skp n s a l) (g : Skp n s b r) (hv : (s * v) % n = 1 % n) : Skp n s (conv a b) (conv l r) :=
  ⟨by rw [conv_len, g.la], by rw [conv_len, g.lo], fun x => by
    rw [at_conv g.lo hn, at_conv g.la hn]
    have p : Per n fun j => at' l j * at' r (x * s - j) := per_mul (at_per' h.lo) (per_shift (at_per' g.lo) _)
    rw [← S_unit hn p hv]
    refine S_congr fun j _ => ?_
    show at' l (j * s) * at' r (x * s - j * s) = _
    rw [← Int.sub_mul, h.at_, g.at_]⟩
theorem Skp.turned {n : Nat} (hn : 0 < n) {s : Int} {a l : List Int} (h : Skp n s a l) (far : Int) : Skp n s (turned a far) (turned l (far * s)) :=
  ⟨by rw [turned_len, h.la], by rw [turned_len, h.lo], fun x => by
    rw [at_turned (by rw [h.lo]; exact hn), at_turned (by rw [h.la]; exact hn), ← Int.sub_mul, h.at_]⟩
theorem at_mem {a : List Int} (h : 0 < a.length) (x : Int) : at' a x ∈ a := List.mem_of_getElem? (at_get h)
end Ld
set_option linter.all false
namespace Ld
def finF (a : List Int) (q : Nat) (x : Int) : Int := if x % q = 0 then at' a (x / q) else 0
def fin (a : List Int) (q : Nat) : List Int := tab (q * a.length) (finF a q)
theorem fin_len (a : List Int) (q : Nat) : (fin a q).length = q * a.length := tab_len _ _
theorem div_mod {n q : Nat} (hq : 0 < q) {x y : Int} (h : x % ((q * n : Nat) : Int) = y % ((q * n : Nat) : Int)) : x % q = y % q ∧ (x / q) % n = (y / q) % n := by
  have d : ((q : Nat) : Int) ∣ ((q * n : Nat) : Int) := by rw [Int.natCast_mul]; exact Int.dvd_mul_right _ _
  refine ⟨?_, ?_⟩
  · rw [← Int.emod_emod_of_dvd x d, h, Int.emod_emod_of_dvd y d]
  · have e : ((q * n : Nat) : Int) ∣ x - y := Int.dvd_of_emod_eq_zero (Int.emod_eq_emod_iff_emod_sub_eq_zero.mp h)
    obtain ⟨t, ht⟩ := e
    rw [Int.natCast_mul] at ht
    have ex : x = y + q * (n * t) := by rw [← Int.mul_assoc]; omega
    rw [ex, Int.add_mul_ediv_left _ _ (by omega), Int.add_mul_emod_self_left]
theorem per_fin {a : List Int} {q n : Nat} (ha : a.length = n) (hq : 0 < q) : Per (q * n) (finF a q) := fun x y h => by
  have d := div_mod hq h
  unfold finF
  rw [d.1, at_per' ha _ _ d.2]
theorem at_fin {a : List Int} {q : Nat} (hn : 0 < a.length) (hq : 0 < q) (x : Int) : at' (fin a q) x = if x % q = 0 then at' a (x / q) else 0 := at_tab (Nat.mul_pos hq hn) (per_fin rfl hq) x
theorem inv_down {st v : Int} {n q : Nat} (h : (st * v) % ((q * n : Nat) : Int) = 1 % ((q * n : Nat) : Int)) : (st * v) % n = 1 % n ∧ (st * v) % q = 1 % q := by
  have d1 : ((n : Nat) : Int) ∣ ((q * n : Nat) : Int) := by rw [Int.natCast_mul]; exact Int.dvd_mul_left _ _
  have d2 : ((q : Nat) : Int) ∣ ((q * n : Nat) : Int) := by rw [Int.natCast_mul]; exact Int.dvd_mul_right _ _
  exact ⟨by rw [← Int.emod_emod_of_dvd _ d1, h, Int.emod_emod_of_dvd _ d1], by rw [← Int.emod_emod_of_dvd _ d2, h, Int.emod_emod_of_dvd _ d2]⟩
theorem Skp.fin {n q : Nat} (hn : 0 < n) (hq : 0 < q) {st v : Int} {a o : List Int} (h : Skp n st a o) (hv : (st * v) % ((q * n : Nat) : Int) = 1 % ((q * n : Nat) : Int)) : Skp (q * n) st (fin a q) (fin o q) :=
  ⟨by rw [fin_len, h.la], by rw [fin_len, h.lo], fun x => by
    rw [at_fin (by rw [h.lo]; exact hn) hq, at_fin (by rw [h.la]; exact hn) hq]
    have iq := (inv_down hv).2
    by_cases z : x % q = 0
    · obtain ⟨y, rfl⟩ := Int.dvd_of_emod_eq_zero z
      rw [if_pos z, if_pos (by rw [Int.mul_assoc, Int.mul_emod_right]), Int.mul_assoc, Int.mul_ediv_cancel_left _ (by omega), Int.mul_ediv_cancel_left _ (by omega), h.at_]
    · rw [if_neg z, if_neg fun w => z ?_]
      have : (x * st * v) % q = x % q := by rw [Int.mul_assoc, Int.mul_emod, iq, ← Int.mul_emod, Int.mul_one]
      rw [← this, Int.mul_emod, w, Int.zero_mul, Int.zero_emod]⟩
end Ld
set_option linter.all false
namespace Pl
def ds (n : Nat) : Nat → List Int
  | 0 => []
  | k + 1 => ds n k ++ (if ((k : Int) + 1) ∣ (n : Int) then [(k : Int) + 1] else [])
noncomputable def pv (n : Nat) (far : Int) : Int := (((ds n n).filter fun d => decide (d ∣ far)).map fun d => d * Pt.mu (n / d)).sum
theorem S_sum (F : Int → Int) : ∀ n : Nat, ((List.range n).map fun j : Nat => F j).sum = Ld.S n F
  | 0 => rfl
  | n + 1 => by rw [List.range_succ, List.map_append, List.sum_append, S_sum F n]; simp [Ld.S]
end Pl
set_option linter.all false
namespace Rs
open Pt (Parts Prd Prm Row IsPow)
theorem cdvd {a b t : Int} (h : Nat.Coprime a.natAbs b.natAbs) (ha : a ∣ t) (hb : b ∣ t) : a * b ∣ t := by
  rw [← Int.natAbs_dvd_natAbs] at ha hb ⊢
  rw [Int.natAbs_mul]
  exact Nat.Coprime.mul_dvd_of_dvd_of_dvd h ha hb
theorem cdvd_mul {a b t : Int} (h : Nat.Coprime a.natAbs b.natAbs) (hd : a ∣ b * t) : a ∣ t := by
  rw [← Int.natAbs_dvd_natAbs] at hd ⊢
  rw [Int.natAbs_mul] at hd
  exact Nat.Coprime.dvd_of_dvd_mul_left h hd
theorem cop_pow {p m : Int} (hp : Prm p) (h : ¬ p ∣ m) (e : Nat) : Nat.Coprime (p ^ e).natAbs m.natAbs := by
  rw [Int.natAbs_pow]
  exact Nat.Coprime.pow_left e (Pt.copr hp h)
theorem part_cof {n : Int} {ps : List (Int × Int)} (hp : Parts n ps) {x : Int × Int} (hx : x ∈ ps) : ∃ m, n = x.2 * m ∧ n / x.2 = m ∧ ¬ x.1 ∣ m ∧ 2 ≤ x.2 ∧ x.1 ∣ x.2 ∧ Nat.Coprime x.2.natAbs m.natAbs := by
  obtain ⟨m, e, nd, _⟩ := Pt.Prd_split hx hp.srt hp.row
  rw [hp.prd] at e
  have row := hp.row x hx
  obtain ⟨k, hk⟩ := row.pw
  have l := Pt.row_le row
  refine ⟨m, e, by rw [e]; exact Int.mul_ediv_cancel_left _ (by omega), nd, by omega, by rw [hk, Int.pow_succ]; exact Int.dvd_mul_left _ _, ?_⟩
  rw [hk]; exact cop_pow row.pr nd _
theorem G_part {n : Int} {ps : List (Int × Int)} (hp : Parts n ps) {x : Int × Int} (hx : x ∈ ps) : Eh.G (n / x.2) x.2 = 1 := by
  obtain ⟨m, _, e, _, _, _, c⟩ := part_cof hp hx
  rw [e]
  unfold Eh.G Int.gcd
  rw [Nat.gcd_comm]
  have : Nat.gcd x.2.natAbs m.natAbs = 1 := c
  rw [this]; rfl
theorem cop_xy {x y : Int × Int} (hx : Row x) (hy : Row y) (ne : x.1 ≠ y.1) : Nat.Coprime x.2.natAbs y.2.natAbs := by
  obtain ⟨k, hk⟩ := hx.pw
  obtain ⟨j, hj⟩ := hy.pw
  rw [hk]
  refine cop_pow hx.pr (fun d => ne ?_) _
  rw [hj] at d
  exact Pt.prm_pow hx.pr hy.pr _ d
theorem all_dvd {t : Int} : ∀ {ps : List (Int × Int)}, (∀ x ∈ ps, Row x) → ps.Pairwise (fun a b => a.1 < b.1) → (∀ x ∈ ps, x.2 ∣ t) → Prd ps ∣ t
  | [], _, _, _ => Int.one_dvd t
  | x :: r, row, srt, h => by
    have ⟨s1, s2⟩ := List.pairwise_cons.mp srt
    have ih := all_dvd (fun y hy => row y (List.mem_cons_of_mem _ hy)) s2 (fun y hy => h y (List.mem_cons_of_mem _ hy))
    have cop : ∀ {l : List (Int × Int)}, (∀ y ∈ l, Row y ∧ x.1 ≠ y.1) → Nat.Coprime x.2.natAbs (Prd l).natAbs := by
      intro l
      induction l with
      | nil => intro _; simp [Prd]
      | cons y l ih =>
        intro hl
        have a := hl y List.mem_cons_self
        have b := ih fun z hz => hl z (List.mem_cons_of_mem _ hz)
        simp only [Prd]
        rw [Int.natAbs_mul]
        exact Nat.Coprime.mul_right (cop_xy (row x List.mem_cons_self) a.1 a.2) b
    exact cdvd (cop fun y hy => ⟨row y (List.mem_cons_of_mem _ hy), by have := s1 y hy; omega⟩) (h x List.mem_cons_self) ih
theorem cross {n : Int} {ps : List (Int × Int)} (hp : Parts n ps) {x y : Int × Int} (hx : x ∈ ps) (hy : y ∈ ps) (ne : x.1 ≠ y.1) : x.2 ∣ n / y.2 := by
  obtain ⟨m, e, e', _⟩ := part_cof hp hy
  obtain ⟨m', f, _⟩ := part_cof hp hx
  rw [e']
  refine cdvd_mul (cop_xy (hp.row x hx) (hp.row y hy) ne) ?_
  rw [← e, f]; exact Int.dvd_mul_right _ _
structure Sh (n q hole c : Int) : Prop where
  lo : 0 ≤ c
  hi : c < q
  dv : q ∣ c * (n / q) - hole
theorem sh_of {n q hole u : Int} (hq : 0 < q) (hu : (n / q * u - 1) % q = 0) : Sh n q hole (hole * u % q) := by
  refine ⟨Int.emod_nonneg _ (by omega), Int.emod_lt_of_pos _ hq, ?_⟩
  have d1 : q ∣ hole * u - hole * u % q := Int.dvd_self_sub_emod
  have d2 : q ∣ n / q * u - 1 := Int.dvd_of_emod_eq_zero hu
  have e : hole * u % q * (n / q) - hole = hole * (n / q * u - 1) - (hole * u - hole * u % q) * (n / q) := by
    rw [Int.mul_sub, Int.sub_mul, Int.mul_one]
    have : hole * (n / q * u) = hole * u * (n / q) := by rw [Int.mul_assoc, Int.mul_comm u]
    omega
  rw [e]
  exact Int.dvd_sub (Int.dvd_mul_of_dvd_right d2) (Int.dvd_mul_of_dvd_left d1)
theorem sh_one {n q h h' c c' : Int} (cop : Nat.Coprime q.natAbs (n / q).natAbs) (a : Sh n q h c) (b : Sh n q h' c') (e : q ∣ h - h') : c = c' := by
  have d : q ∣ n / q * (c - c') := by
    have := Int.dvd_add (Int.dvd_sub a.dv b.dv) e
    have z : c * (n / q) - h - (c' * (n / q) - h') + (h - h') = n / q * (c - c') := by
      rw [Int.mul_sub, Int.mul_comm (n / q) c, Int.mul_comm (n / q) c']; omega
    rwa [z] at this
  have d' := cdvd_mul cop d
  have z := Int.emod_eq_emod_iff_emod_sub_eq_zero.mpr (Int.emod_eq_zero_of_dvd d')
  rwa [Int.emod_eq_of_lt a.lo a.hi, Int.emod_eq_of_lt b.lo b.hi] at z
theorem cop_part {n : Int} {ps : List (Int × Int)} (hp : Parts n ps) {x : Int × Int} (hx : x ∈ ps) : Nat.Coprime x.2.natAbs (n / x.2).natAbs := by
  obtain ⟨m, _, e, _, _, _, c⟩ := part_cof hp hx
  rw [e]; exact c
theorem len_parts {n : Int} {ps : List (Int × Int)} (hp : Pt.Parts n ps) : (ps.length : Int) ≤ n := by
  have key : ∀ l : List (Int × Int), (∀ x ∈ l, Pt.Row x) → (l.length : Int) ≤ Pt.Prd l := by
    intro l
    induction l with
    | nil => intro _; simp [Pt.Prd]
    | cons x r ih =>
      intro h
      have a := ih fun y hy => h y (List.mem_cons_of_mem _ hy)
      have b := Pt.row_le (h x List.mem_cons_self)
      have c := Pt.Prd_pos r fun y hy => h y (List.mem_cons_of_mem _ hy)
      simp only [Pt.Prd, List.length_cons]
      have := Int.mul_le_mul_of_nonneg_right (show 2 ≤ x.2 by omega) (show 0 ≤ Pt.Prd r by omega)
      omega
  have := key ps hp.row
  rwa [hp.prd] at this
end Rs
set_option linter.all false
namespace Rg
def rv (n : Int) (t : Int × Int × Int) (x : Int) : Int := if (x - t.2.1) % (n / t.1) = 0 then t.2.2 else 0
def rvs (n : Int) (rows : List (Int × Int × Int)) (x : Int) : Int := (rows.map fun t => rv n t x).sum
theorem rvs_snoc (n : Int) (rows : List (Int × Int × Int)) (t : Int × Int × Int) (x : Int) : rvs n (rows ++ [t]) x = rvs n rows x + rv n t x := by
  unfold rvs; rw [List.map_append, List.sum_append]; simp
theorem lay0 {n st : Nat} (hn : 0 < n) (hst : 0 < st) (hole many : Int) (a : List Int) : ∀ x : Int, Ld.at' a x = Ld.at' a x + (if (x - hole) % st = 0 ∧ (x % n) / st < ((0 : Nat) : Int) then many else 0) := fun x => by
  rw [if_neg, Int.add_zero]
  rintro ⟨_, z⟩
  have := Int.ediv_nonneg (Int.emod_nonneg x (show (n : Int) ≠ 0 by omega)) (show (0 : Int) ≤ st by omega)
  omega
theorem lay1 {n st p i : Nat} (hst : 0 < st) (hnp : n = p * st) (hi : i < p) {hole many : Int} {a b : List Int} (hb : b.length = n)
    (h : ∀ x : Int, Ld.at' b x = Ld.at' a x + (if (x - hole) % st = 0 ∧ (x % n) / st < (i : Int) then many else 0)) :
    0 ≤ hole % st + i * st ∧ hole % st + i * st < (n : Int) ∧ ∀ x : Int, Ld.at' (b.set (hole % st + i * st).toNat (Ld.at' b (hole % st + i * st) + many)) x = Ld.at' a x + (if (x - hole) % st = 0 ∧ (x % n) / st < ((i + 1 : Nat) : Int) then many else 0) := by
  have l0 := Int.emod_nonneg hole (show (st : Int) ≠ 0 by omega)
  have l1 := Int.emod_lt_of_pos hole (show (0 : Int) < st by omega)
  have hn : 0 < n := by rw [hnp]; exact Nat.mul_pos (by omega) hst
  have is0 : (0 : Int) ≤ (i : Int) * st := Int.mul_nonneg (by omega) (by omega)
  have is1 : ((i : Int) + 1) * st ≤ n := by
    rw [hnp, Int.natCast_mul]
    exact Int.mul_le_mul_of_nonneg_right (by omega) (by omega)
  rw [Int.add_mul, Int.one_mul] at is1
  have y0 : 0 ≤ hole % st + i * st := by omega
  have y1 : hole % st + i * st < (n : Int) := by omega
  have ym : (hole % st + i * st) % n = hole % st + i * st := Int.emod_eq_of_lt y0 y1
  have sn : (st : Int) ∣ n := ⟨p, by rw [hnp, Int.natCast_mul, Int.mul_comm]⟩
  have ys : (hole % st + i * st) / st = i := by rw [Int.add_mul_ediv_right _ _ (by omega), Int.ediv_eq_zero_of_lt l0 l1, Int.zero_add]
  refine ⟨y0, y1, fun x => ?_⟩
  have e := Ld.at_set hb hn (hole % st + i * st) (Ld.at' b (hole % st + i * st) + many) x
  rw [ym] at e
  rw [e]
  by_cases c : x % n = hole % st + i * st
  · have c1 : (x - hole) % st = 0 := by
      have : x % st = hole % st := by
        rw [← Int.emod_emod_of_dvd x sn, c, Int.add_mul_emod_self_right, Int.emod_emod_of_dvd _ (Int.dvd_refl _)]
      rw [Int.sub_emod, this]; simp
    rw [if_pos c, if_pos ⟨c1, by rw [c, ys]; omega⟩]
    have ex : Ld.at' b (hole % st + i * st) = Ld.at' b x := Ld.at_per' hb _ _ (by rw [ym, c])
    rw [ex, h, if_neg]
    · omega
    · rintro ⟨_, z⟩
      rw [c, ys] at z; omega
  · rw [if_neg c, h]
    by_cases d : (x - hole) % st = 0 ∧ (x % n) / st < (i : Int)
    · rw [if_pos d, if_pos ⟨d.1, by have := d.2; omega⟩]
    · rw [if_neg d, if_neg]
      rintro ⟨z1, z2⟩
      have zi : (x % n) / st = i := by
        rcases Int.lt_or_le ((x % n) / st) i with w | w
        · exact absurd ⟨z1, w⟩ d
        · omega
      have zm : (x % n) % st = hole % st := by
        rw [Int.emod_emod_of_dvd x sn]
        have := Int.emod_eq_emod_iff_emod_sub_eq_zero.mpr z1
        exact this
      have := Int.emod_add_mul_ediv (x % n) st
      rw [zi, zm, Int.mul_comm] at this
      exact c this.symm
theorem lay2 {n st p : Nat} (hst : 0 < st) (hp : 0 < p) (hnp : n = p * st) {hole many : Int} {a b : List Int}
    (h : ∀ x : Int, Ld.at' b x = Ld.at' a x + (if (x - hole) % st = 0 ∧ (x % n) / st < (p : Int) then many else 0)) : ∀ x : Int, Ld.at' b x = Ld.at' a x + (if (x - hole) % st = 0 then many else 0) := fun x => by
  rw [h]
  have hn : 0 < n := by rw [hnp]; exact Nat.mul_pos hp hst
  have lt : (x % n) / st < (p : Int) := by
    refine Int.ediv_lt_of_lt_mul (by omega) ?_
    have := Int.emod_lt_of_pos x (show (0 : Int) < n by omega)
    rw [hnp, Int.natCast_mul] at this ⊢
    exact this
  by_cases c : (x - hole) % st = 0
  · rw [if_pos ⟨c, lt⟩, if_pos c]
  · rw [if_neg (fun z => c z.1), if_neg c]
theorem cnt_ring {n st p : Nat} (hst : 0 < st) (hp : 0 < p) (hnp : n = p * st) (hole : Int) : hole % st < (n : Int) ∧ (((n : Int) - hole % st - 1) / st + 1).toNat = p := by
  have l0 := Int.emod_nonneg hole (show (st : Int) ≠ 0 by omega)
  have l1 := Int.emod_lt_of_pos hole (show (0 : Int) < st by omega)
  have e : (n : Int) = p * st := by rw [hnp, Int.natCast_mul]
  have s1 : (st : Int) ≤ n := by rw [e]; have := Int.mul_le_mul_of_nonneg_right (show (1 : Int) ≤ p by omega) (show (0 : Int) ≤ st by omega); omega
  refine ⟨by omega, ?_⟩
  have q : ((n : Int) - hole % st - 1) / st = p - 1 := by
    have r : (n : Int) - hole % st - 1 = (st - 1 - hole % st) + (p - 1) * st := by rw [Int.sub_mul, Int.one_mul, e]; omega
    rw [r, Int.add_mul_ediv_right _ _ (by omega), Int.ediv_eq_zero_of_lt (by omega) (by omega), Int.zero_add]
  rw [q]; omega
theorem step_of {n : Nat} {p : Int} (hn : 1 ≤ n) (hp : 2 ≤ p) (d : p ∣ n) : ∃ st : Nat, (n : Int) / p = st ∧ 0 < st ∧ n = p.toNat * st ∧ p.toNat ≤ n := by
  obtain ⟨e, he⟩ := d
  have e1 : 1 ≤ e := by
    rcases Int.lt_or_le e 1 with z | z
    · have := Int.mul_le_mul_of_nonneg_left (show e ≤ 0 by omega) (show 0 ≤ p by omega); omega
    · exact z
  have q : (n : Int) / p = e := by rw [he]; exact Int.mul_ediv_cancel_left _ (by omega)
  have f : n = p.toNat * e.toNat := by
    have : ((p.toNat * e.toNat : Nat) : Int) = p * e := by rw [Int.natCast_mul, Int.toNat_of_nonneg (by omega), Int.toNat_of_nonneg (by omega)]
    omega
  exact ⟨e.toNat, by rw [q, Int.toNat_of_nonneg (by omega)], by omega, f, by rw [f]; exact Nat.le_mul_of_pos_right _ (by omega)⟩
end Rg
namespace Rg
theorem own0 {n st : Nat} (hn : 0 < n) (hst : 0 < st) (hole many : Int) (a : List Int) : ∀ x : Int, Ld.at' a x = Ld.at' a x + (if (x - hole) % st = 0 ∧ ((x - hole) % n) / st < ((0 : Nat) : Int) then many else 0) := fun x => by
  rw [if_neg, Int.add_zero]
  rintro ⟨_, z⟩
  have := Int.ediv_nonneg (Int.emod_nonneg (x - hole) (show (n : Int) ≠ 0 by omega)) (show (0 : Int) ≤ st by omega)
  omega
theorem own1 {n st p i : Nat} (hst : 0 < st) (hnp : n = p * st) (hi : i < p) {hole many : Int} {a b : List Int} (hb : b.length = n)
    (h : ∀ x : Int, Ld.at' b x = Ld.at' a x + (if (x - hole) % st = 0 ∧ ((x - hole) % n) / st < (i : Int) then many else 0)) :
    ∀ x : Int, Ld.at' (b.set ((hole + i * st) % n).toNat (Ld.at' b (hole + i * st) + many)) x = Ld.at' a x + (if (x - hole) % st = 0 ∧ ((x - hole) % n) / st < ((i + 1 : Nat) : Int) then many else 0) := fun x => by
  have hn : 0 < n := by rw [hnp]; exact Nat.mul_pos (by omega) hst
  have is0 : (0 : Int) ≤ (i : Int) * st := Int.mul_nonneg (by omega) (by omega)
  have is1 : ((i : Int) + 1) * st ≤ n := by
    rw [hnp, Int.natCast_mul]
    exact Int.mul_le_mul_of_nonneg_right (by omega) (by omega)
  rw [Int.add_mul, Int.one_mul] at is1
  have ism : ((i : Int) * st) % n = i * st := Int.emod_eq_of_lt is0 (by omega)
  have sn : (st : Int) ∣ n := ⟨p, by rw [hnp, Int.natCast_mul, Int.mul_comm]⟩
  rw [Ld.at_set hb hn]
  by_cases c : x % n = (hole + i * st) % n
  · have d : (x - hole) % n = i * st := by rw [Int.sub_emod, c, ← Int.sub_emod, show hole + (i : Int) * st - hole = i * st by omega, ism]
    have d1 : (x - hole) % st = 0 := by rw [← Int.emod_emod_of_dvd _ sn, d, Int.mul_emod_left]
    have d2 : ((x - hole) % n) / st = i := by rw [d, Int.mul_ediv_cancel _ (by omega)]
    rw [if_pos c, if_pos ⟨d1, by rw [d2]; omega⟩, ← Ld.at_per' hb x _ c, h, if_neg]
    · omega
    · rintro ⟨_, z⟩; rw [d2] at z; omega
  · rw [if_neg c, h]
    by_cases d : (x - hole) % st = 0 ∧ ((x - hole) % n) / st < (i : Int)
    · rw [if_pos d, if_pos ⟨d.1, by have := d.2; omega⟩]
    · rw [if_neg d, if_neg]
      rintro ⟨z1, z2⟩
      have zi : ((x - hole) % n) / st = i := by
        rcases Int.lt_or_le (((x - hole) % n) / st) i with w | w
        · exact absurd ⟨z1, w⟩ d
        · omega
      have zm : ((x - hole) % n) % st = 0 := by rw [Int.emod_emod_of_dvd _ sn]; exact z1
      have e := Int.emod_add_mul_ediv ((x - hole) % n) st
      rw [zi, zm, Int.zero_add, Int.mul_comm] at e
      refine c ?_
      have : ((x - hole) % n + hole) % n = (i * st + hole) % n := by rw [e]
      rw [Int.emod_add_emod, show x - hole + hole = x by omega, Int.add_comm ((i : Int) * st)] at this
      exact this
theorem own2 {n st p : Nat} (hst : 0 < st) (hp : 0 < p) (hnp : n = p * st) {hole many : Int} {a b : List Int}
    (h : ∀ x : Int, Ld.at' b x = Ld.at' a x + (if (x - hole) % st = 0 ∧ ((x - hole) % n) / st < (p : Int) then many else 0)) : ∀ x : Int, Ld.at' b x = Ld.at' a x + (if (x - hole) % st = 0 then many else 0) := fun x => by
  rw [h]
  have hn : 0 < n := by rw [hnp]; exact Nat.mul_pos hp hst
  have lt : ((x - hole) % n) / st < (p : Int) := by
    refine Int.ediv_lt_of_lt_mul (by omega) ?_
    have := Int.emod_lt_of_pos (x - hole) (show (0 : Int) < n by omega)
    rw [hnp, Int.natCast_mul] at this ⊢
    exact this
  by_cases c : (x - hole) % st = 0
  · rw [if_pos ⟨c, lt⟩, if_pos c]
  · rw [if_neg (fun z => c z.1), if_neg c]
end Rg
set_option linter.all false
namespace Rt
open Pt (Parts)
structure Pc (n : Nat) (p q u : Int) : Prop where
  n1 : 1 ≤ n
  p2 : 2 ≤ p
  q2 : 1 ≤ q
  pq : p ∣ q
  qn : q ∣ (n : Int)
  le : ((n : Int) / q * u - 1) % q = 0
theorem Pc.mk' {n : Nat} {ps : List (Int × Int)} (hn : 1 ≤ n) (hp : Parts n ps) {x : Int × Int} (hx : x ∈ ps) {u : Int} (hu : ((n : Int) / x.2 * u - 1) % x.2 = 0) : Pc n x.1 x.2 u := by
  obtain ⟨m, e, e', _, q2, d, _⟩ := Rs.part_cof hp hx
  exact ⟨hn, (hp.row x hx).pr.1, by omega, d, ⟨m, e⟩, hu⟩
section
variable {n : Nat} {p q u : Int}
def top (p q u k : Int) : Int := (k * u % q) / (q / p)
theorem Pc.m (h : Pc n p q u) : ∃ m, q = p * m ∧ q / p = m ∧ 1 ≤ m := by
  obtain ⟨m, e⟩ := h.pq
  have hp := h.p2
  have hq := h.q2
  refine ⟨m, e, by rw [e]; exact Int.mul_ediv_cancel_left _ (by omega), ?_⟩
  rcases Int.lt_or_le m 1 with z | z
  · have := Int.mul_le_mul_of_nonneg_left (show m ≤ 0 by omega) (show 0 ≤ p by omega); omega
  · exact z
theorem Pc.cof (h : Pc n p q u) : ∃ c, (n : Int) = q * c ∧ (n : Int) / q = c ∧ (n : Int) / p = c * (q / p) := by
  obtain ⟨c, e⟩ := h.qn
  obtain ⟨m, em, em', m1⟩ := h.m
  have hp := h.p2
  have hq := h.q2
  refine ⟨c, e, by rw [e]; exact Int.mul_ediv_cancel_left _ (by omega), ?_⟩
  rw [em', e, em, Int.mul_assoc, Int.mul_ediv_cancel_left _ (by omega), Int.mul_comm]
theorem Pc.step (h : Pc n p q u) (k t : Int) : ((k + t * ((n : Int) / p)) * u) % q = (k * u + t * (q / p)) % q := by
  obtain ⟨c, e, e1, e2⟩ := h.cof
  have d : q ∣ c * u - 1 := by have := Int.dvd_of_emod_eq_zero h.le; rwa [e1] at this
  refine Int.emod_eq_emod_iff_emod_sub_eq_zero.mpr (Int.emod_eq_zero_of_dvd ?_)
  rw [e2]
  have : (k + t * (c * (q / p))) * u - (k * u + t * (q / p)) = t * (q / p) * (c * u - 1) := by
    rw [Int.add_mul, Int.mul_sub, Int.mul_one]
    have : t * (c * (q / p)) * u = t * (q / p) * (c * u) := by
      rw [Int.mul_assoc, Int.mul_assoc t (q / p), Int.mul_comm c (q / p), Int.mul_assoc]
    omega
  rw [this]
  exact Int.dvd_mul_of_dvd_right d
theorem Pc.top_lt (h : Pc n p q u) (k : Int) : 0 ≤ top p q u k ∧ top p q u k < p := by
  obtain ⟨m, em, em', m1⟩ := h.m
  have hq := h.q2
  unfold top
  rw [em']
  have a := Int.emod_nonneg (k * u) (show q ≠ 0 by omega)
  have b := Int.emod_lt_of_pos (k * u) (show 0 < q by omega)
  refine ⟨Int.ediv_nonneg a (by omega), Int.ediv_lt_of_lt_mul (by omega) ?_⟩
  rw [← em]; exact b
theorem Pc.top_step (h : Pc n p q u) (k t : Int) : top p q u (k + t * ((n : Int) / p)) = (top p q u k + t) % p := by
  obtain ⟨m, em, em', m1⟩ := h.m
  have hq := h.q2
  have hp := h.p2
  unfold top
  rw [h.step, em']
  have r0 := Int.emod_nonneg (k * u) (show q ≠ 0 by omega)
  have e1 : (k * u + t * m) % q = (k * u % q + t * m) % q := by rw [Int.emod_add_emod]
  rw [e1]
  generalize k * u % q = r
  have rd := Int.emod_add_mul_ediv r m
  have s0 := Int.emod_nonneg r (show m ≠ 0 by omega)
  have s1 := Int.emod_lt_of_pos r (show 0 < m by omega)
  generalize hs : r % m = s at rd s0 s1
  generalize hT : r / m = T at rd
  have er : r + t * m = s + m * (T + t) := by rw [← rd, Int.mul_add, Int.mul_comm t m]; omega
  rw [er]
  have td := Int.emod_add_mul_ediv (T + t) p
  have v0 := Int.emod_nonneg (T + t) (show p ≠ 0 by omega)
  have v1 := Int.emod_lt_of_pos (T + t) (show 0 < p by omega)
  generalize (T + t) % p = v at td v0 v1
  generalize (T + t) / p = w at td
  have e2 : s + m * (T + t) = (s + m * v) + q * w := by
    rw [← td, Int.mul_add, em, ← Int.mul_assoc m p w, Int.mul_comm m p]; omega
  rw [e2, Int.add_mul_emod_self_left]
  have mv0 : 0 ≤ m * v := Int.mul_nonneg (by omega) v0
  have mv1 : m * v + m ≤ q := by
    have := Int.mul_le_mul_of_nonneg_left (show v + 1 ≤ p by omega) (show 0 ≤ m by omega)
    rw [Int.mul_add, Int.mul_one, Int.mul_comm m p, ← em] at this
    exact this
  rw [Int.emod_eq_of_lt (by omega) (by omega), Int.add_mul_ediv_left _ _ (by omega), Int.ediv_eq_zero_of_lt s0 s1, Int.zero_add]
def dl (n : Nat) (p q u k : Int) : Int := k + (p - 1 - top p q u k) * ((n : Int) / p)
theorem Pc.top_dl (h : Pc n p q u) (k : Int) : top p q u (dl n p q u k) = p - 1 := by
  have t := h.top_lt k
  unfold dl
  rw [h.top_step, show top p q u k + (p - 1 - top p q u k) = p - 1 by omega, Int.emod_eq_of_lt (by omega) (by omega)]
theorem dl_top {k : Int} (h : top p q u k = p - 1) : dl n p q u k = k := by
  unfold dl
  rw [h]; simp
theorem Pc.dl_step (h : Pc n p q u) (k t : Int) : (dl n p q u (k + t * ((n : Int) / p))) % n = (dl n p q u k) % n := by
  unfold dl
  rw [h.top_step]
  have hp := h.p2
  have td := Int.emod_add_mul_ediv (top p q u k + t) p
  generalize (top p q u k + t) % p = v at td
  generalize (top p q u k + t) / p = w at td
  have np : p * ((n : Int) / p) = n := Int.mul_ediv_cancel' (Int.dvd_trans h.pq h.qn)
  have e : k + t * ((n : Int) / p) + (p - 1 - v) * ((n : Int) / p) = k + (p - 1 - top p q u k) * ((n : Int) / p) + n * w := by
    have f : t + (p - 1 - v) = (p - 1 - top p q u k) + p * w := by omega
    rw [Int.add_assoc, ← Int.add_mul, f, Int.add_mul, Int.mul_comm p w, Int.mul_assoc, np, Int.mul_comm w]
    omega
  rw [e, Int.add_mul_emod_self_left]
def E (n : Nat) (p q u : Int) (f : Int → Int) : Int → Int := fun k => f k - f (dl n p q u k)
theorem Pc.E_per (h : Pc n p q u) {f : Int → Int} (hf : Ld.Per n f) : Ld.Per n (E n p q u f) := fun x y e => by
  unfold E
  rw [hf x y e]
  congr 1
  refine hf _ _ ?_
  have et : top p q u x = top p q u y := by
    unfold top
    have : (x * u) % q = (y * u) % q := by
      have d : q ∣ x * u - y * u := by
        rw [← Int.sub_mul]
        exact Int.dvd_mul_of_dvd_left (Int.dvd_trans h.qn (Int.dvd_of_emod_eq_zero (Int.emod_eq_emod_iff_emod_sub_eq_zero.mp e)))
      exact Int.emod_eq_emod_iff_emod_sub_eq_zero.mpr (Int.emod_eq_zero_of_dvd d)
    rw [this]
  unfold dl
  rw [et]
  exact Ld.emod_add_of _ e
theorem E_add (f g : Int → Int) (k : Int) : E n p q u (fun x => f x + g x) k = E n p q u f k + E n p q u g k := by unfold E; dsimp only; omega
theorem E_zero {f : Int → Int} (h : ∀ k, f k = 0) (k : Int) : E n p q u f k = 0 := by unfold E; rw [h, h]; rfl
theorem Pc.E_drop (h : Pc n p q u) (f : Int → Int) {k : Int} (t : top p q u k = p - 1) : E n p q u f k = 0 := by unfold E; rw [dl_top t]; omega
def Inv (n : Nat) (p : Int) (f : Int → Int) : Prop := ∀ k t : Int, f (k + t * ((n : Int) / p)) = f k
theorem Pc.E_inv (h : Pc n p q u) {f : Int → Int} (hf : Inv n p f) (k : Int) : E n p q u f k = 0 := by
  unfold E dl
  rw [hf]; omega
end
section
variable {n : Nat} {p q u p' q' u' : Int}
theorem cross_top (d : q ∣ (n : Int) / p') (k t : Int) : top p q u (k + t * ((n : Int) / p')) = top p q u k := by
  unfold top
  congr 1
  refine Int.emod_eq_emod_iff_emod_sub_eq_zero.mpr (Int.emod_eq_zero_of_dvd ?_)
  rw [Int.add_mul, show k * u + t * ((n : Int) / p') * u - k * u = t * ((n : Int) / p') * u by omega]
  exact Int.dvd_mul_of_dvd_left (Int.dvd_mul_of_dvd_right d)
theorem E_keeps_inv (d : q ∣ (n : Int) / p') {f : Int → Int} (hf : Inv n p' f) : Inv n p' (E n p q u f) := fun k t => by
  unfold E dl
  rw [cross_top d, hf]
  congr 1
  have : k + t * ((n : Int) / p') + (p - 1 - top p q u k) * ((n : Int) / p) = k + (p - 1 - top p q u k) * ((n : Int) / p) + t * ((n : Int) / p') := by omega
  rw [this, hf]
theorem E_keeps_zero (d : q' ∣ (n : Int) / p) {f : Int → Int} (hf : ∀ k, top p' q' u' k = p' - 1 → f k = 0) (k : Int) (t : top p' q' u' k = p' - 1) : E n p q u f k = 0 := by
  unfold E dl
  rw [hf k t, hf _ (by rw [cross_top d]; exact t)]
  rfl
end
def R (n : Nat) : List ((Int × Int) × Int) → (Int → Int) → Int → Int
  | [], f => f
  | z :: l, f => R n l (E n z.1.1 z.1.2 z.2 f)
structure Ld' (n : Nat) (ps : List (Int × Int)) (l : List ((Int × Int) × Int)) : Prop where
  n1 : 1 ≤ n
  hp : Parts n ps
  map : l.map Prod.fst = ps
  le : ∀ z ∈ l, ((n : Int) / z.1.2 * z.2 - 1) % z.1.2 = 0
theorem Ld'.pc {n : Nat} {ps : List (Int × Int)} {l : List ((Int × Int) × Int)} (h : Ld' n ps l) {z : (Int × Int) × Int} (hz : z ∈ l) : Pc n z.1.1 z.1.2 z.2 :=
  Pc.mk' h.n1 h.hp (by rw [← h.map]; exact List.mem_map.mpr ⟨z, hz, rfl⟩) (h.le z hz)
theorem cross' {n : Nat} {ps : List (Int × Int)} (hp : Parts n ps) {x y : Int × Int} (hx : x ∈ ps) (hy : y ∈ ps) (ne : x.1 ≠ y.1) : x.2 ∣ (n : Int) / y.1 := by
  have c := Rs.cross hp hx hy ne
  obtain ⟨m, e, e', _, q2, ⟨t, d⟩, _⟩ := Rs.part_cof hp hy
  have p2 := (hp.row y hy).pr.1
  have : (n : Int) / y.1 = (n : Int) / y.2 * t := by
    rw [e', e, d, Int.mul_assoc, Int.mul_ediv_cancel_left _ (by omega), Int.mul_comm]
  rw [this]
  exact Int.dvd_mul_of_dvd_left c
theorem R_add (n : Nat) : ∀ (l : List ((Int × Int) × Int)) (f g : Int → Int) (k : Int), R n l (fun x => f x + g x) k = R n l f k + R n l g k
  | [], f, g, k => rfl
  | z :: l, f, g, k => by
    simp only [R]
    have : E n z.1.1 z.1.2 z.2 (fun x => f x + g x) = fun x => E n z.1.1 z.1.2 z.2 f x + E n z.1.1 z.1.2 z.2 g x := funext fun x => E_add f g x
    rw [this, R_add n l]
theorem R_zero (n : Nat) : ∀ (l : List ((Int × Int) × Int)) {f : Int → Int}, (∀ k, f k = 0) → ∀ k, R n l f k = 0
  | [], f, h, k => h k
  | z :: l, f, h, k => R_zero n l (fun k => E_zero h k) k
theorem R_inv {n : Nat} {ps : List (Int × Int)} : ∀ {l : List ((Int × Int) × Int)} {x : Int × Int}, (∀ z ∈ l, Pc n z.1.1 z.1.2 z.2) → (∀ z ∈ l, z.1 = x ∨ z.1.2 ∣ (n : Int) / x.1) → (∃ z ∈ l, z.1 = x) → ∀ {f : Int → Int}, Inv n x.1 f → ∀ k, R n l f k = 0
  | [], x, _, _, ⟨z, hz, _⟩, f, hf, k => by cases hz
  | z :: l, x, hpc, hc, hex, f, hf, k => by
    simp only [R]
    by_cases e : z.1 = x
    · refine R_zero n l (fun k => (hpc z List.mem_cons_self).E_inv ?_ k) k
      rw [e]; exact hf
    · have d : z.1.2 ∣ (n : Int) / x.1 := (hc z List.mem_cons_self).resolve_left e
      refine R_inv (ps := ps) (fun y hy => hpc y (List.mem_cons_of_mem _ hy)) (fun y hy => hc y (List.mem_cons_of_mem _ hy)) ?_ (E_keeps_inv d hf) k
      obtain ⟨y, hy, ey⟩ := hex
      rcases List.mem_cons.mp hy with w | w
      · exact absurd (w ▸ ey) e
      · exact ⟨y, w, ey⟩
theorem Ld'.kill {n : Nat} {ps : List (Int × Int)} {l : List ((Int × Int) × Int)} (h : Ld' n ps l) {x : Int × Int} (hx : x ∈ ps) {f : Int → Int} (hf : Inv n x.1 f) (k : Int) : R n l f k = 0 := by
  have mem : ∀ z ∈ l, z.1 ∈ ps := fun z hz => by rw [← h.map]; exact List.mem_map.mpr ⟨z, hz, rfl⟩
  refine R_inv (ps := ps) (x := x) (fun z hz => h.pc hz) (fun z hz => ?_) ?_ hf k
  · by_cases e : z.1 = x
    · exact .inl e
    · refine .inr (cross' h.hp (mem z hz) hx fun w => e ?_)
      -- two parts of one prime are the same
      rcases List.mem_iff_getElem.mp (mem z hz) with ⟨i, hi, ei⟩
      rcases List.mem_iff_getElem.mp hx with ⟨j, hj, ej⟩
      have pw := List.pairwise_iff_getElem.mp h.hp.srt
      rcases Nat.lt_trichotomy i j with g | g | g
      · have := pw i j hi hj g; rw [ei, ej] at this; omega
      · subst g; rw [← ei, ej]
      · have := pw j i hj hi g; rw [ei, ej] at this; omega
  · rw [← h.map] at hx
    obtain ⟨z, hz, e⟩ := List.mem_map.mp hx
    exact ⟨z, hz, e⟩
theorem rv_inv (n : Nat) (t : Int × Int × Int) (hp : t.1 ∣ (n : Int)) : Inv n t.1 (Rg.rv n t) := fun k s => by
  unfold Rg.rv
  have : (k + s * ((n : Int) / t.1) - t.2.1) % ((n : Int) / t.1) = (k - t.2.1) % ((n : Int) / t.1) := by
    rw [show k + s * ((n : Int) / t.1) - t.2.1 = k - t.2.1 + s * ((n : Int) / t.1) by omega, Int.add_mul_emod_self_right]
  rw [this]
theorem Ld'.kill_rows {n : Nat} {ps : List (Int × Int)} {l : List ((Int × Int) × Int)} (h : Ld' n ps l) : ∀ {rows : List (Int × Int × Int)}, (∀ t ∈ rows, t.1 ∈ ps.map Prod.fst) → ∀ k, R n l (Rg.rvs n rows) k = 0
  | [], _, k => R_zero n l (fun _ => rfl) k
  | t :: r, hm, k => by
    have e : Rg.rvs n (t :: r) = fun x => Rg.rv n t x + Rg.rvs n r x := funext fun x => by unfold Rg.rvs; rw [List.map_cons, List.sum_cons]
    rw [e, R_add, h.kill_rows (rows := r) fun y hy => hm y (List.mem_cons_of_mem _ hy)]
    obtain ⟨x, hx, ex⟩ := List.mem_map.mp (hm t List.mem_cons_self)
    have dv : t.1 ∣ (n : Int) := by rw [← ex]; exact ((Pt.part_iff h.hp x).mp hx).2.1
    rw [h.kill hx (by rw [ex]; exact rv_inv n t dv)]; rfl
end Rt
set_option linter.all false
namespace Rt
open Pt (Parts)
theorem two_pow : ∀ (l : List (Int × Int)), (∀ x ∈ l, Pt.Row x) → (2 : Int) ^ l.length ≤ Pt.Prd l
  | [], _ => by simp [Pt.Prd]
  | x :: r, h => by
    have a := two_pow r fun y hy => h y (List.mem_cons_of_mem _ hy)
    have b := Pt.row_le (h x List.mem_cons_self)
    have c := Pt.Prd_pos r fun y hy => h y (List.mem_cons_of_mem _ hy)
    simp only [Pt.Prd, List.length_cons]
    rw [Int.pow_succ, Int.mul_comm]
    exact Int.mul_le_mul (by omega) a (Int.pow_nonneg (by omega)) (by omega)
theorem few_parts {n : Nat} {ps : List (Int × Int)} (hp : Parts n ps) (hn : n ≤ 420) : ps.length ≤ 8 := by
  rcases Nat.lt_or_ge 8 ps.length with z | z
  · have a := two_pow ps hp.row
    rw [hp.prd] at a
    have b : (2 : Int) ^ 9 ≤ 2 ^ ps.length := Pt.pow_mono (p := 2) (by decide) z
    have c : (2 : Int) ^ 9 = 512 := by decide
    omega
  · exact z
section
variable {n : Nat} {p q u : Int}
theorem Pc.top_iff (h : Pc n p q u) (k : Int) : (k * u % q ≥ q - q / p) ↔ top p q u k = p - 1 := by
  obtain ⟨m, em, em', m1⟩ := h.m
  have hq := h.q2
  have hp := h.p2
  have t := h.top_lt k
  unfold top at t ⊢
  rw [em'] at t ⊢
  have r1 := Int.emod_lt_of_pos (k * u) (show 0 < q by omega)
  have rd := Int.emod_add_mul_ediv (k * u % q) m
  have s0 := Int.emod_nonneg (k * u % q) (show m ≠ 0 by omega)
  have s1 := Int.emod_lt_of_pos (k * u % q) (show 0 < m by omega)
  generalize k * u % q = r at *
  generalize r / m = T at *
  constructor
  · intro g
    rcases Int.lt_or_le T (p - 1) with z | z
    · have := Int.mul_le_mul_of_nonneg_left (show T + 1 ≤ p - 1 by omega) (show 0 ≤ m by omega)
      rw [Int.mul_add, Int.mul_one, Int.mul_sub, Int.mul_one, Int.mul_comm m p, ← em] at this
      omega
    · omega
  · intro g
    rw [g, Int.mul_sub, Int.mul_one, Int.mul_comm m p, ← em] at rd
    omega
theorem Pc.top_per (h : Pc n p q u) {x y : Int} (e : x % n = y % n) : top p q u x = top p q u y := by
  unfold top
  have : (x * u) % q = (y * u) % q := by
    have d : q ∣ x * u - y * u := by
      rw [← Int.sub_mul]
      exact Int.dvd_mul_of_dvd_left (Int.dvd_trans h.qn (Int.dvd_of_emod_eq_zero (Int.emod_eq_emod_iff_emod_sub_eq_zero.mp e)))
    exact Int.emod_eq_emod_iff_emod_sub_eq_zero.mpr (Int.emod_eq_zero_of_dvd d)
  rw [this]
def drs (p q u : Int) : Nat → List Int
  | 0 => []
  | i + 1 => drs p q u i ++ (if top p q u i = p - 1 then [(i : Int)] else [])
def D (n : Nat) (p q u k : Int) : Int := dl n p q u k % n
theorem rv_neg (n p h m x : Int) : Rg.rv n (p, h, -m) x = - Rg.rv n (p, h, m) x := by
  unfold Rg.rv
  dsimp only
  split <;> simp
structure PI (n : Nat) (p q u : Int) (f : Int → Int) (j : Nat) (b : List Int) : Prop where
  len : b.length = n
  at_ : ∀ x, Ld.at' b x = f x - (if D n p q u x ∈ (drs p q u n).take j then f (dl n p q u x) else 0)
end
theorem R_snoc (n : Nat) : ∀ (l : List ((Int × Int) × Int)) (z : (Int × Int) × Int) (f : Int → Int), R n (l ++ [z]) f = E n z.1.1 z.1.2 z.2 (R n l f)
  | [], z, f => rfl
  | y :: l, z, f => by simp only [List.cons_append, R]; exact R_snoc n l z _
structure RowsOk (n : Nat) (P : Int → Int → Prop) (a b : List Int) (rows : List (Int × Int × Int)) : Prop where
  ok : ∀ t ∈ rows, P t.1 t.2.1 ∧ 0 ≤ t.2.1 ∧ t.2.1 < n ∧ ¬ t.2.2 = 0
  nd : (rows.map fun t => (t.1, t.2.1)).Nodup
  eq : ∀ x, Ld.at' a x = Ld.at' b x + Rg.rvs n rows x
theorem RowsOk.weak {n : Nat} {P Q : Int → Int → Prop} {a b : List Int} {rows : List (Int × Int × Int)} (h : RowsOk n P a b rows) (w : ∀ x y, P x y → Q x y) : RowsOk n Q a b rows :=
  ⟨fun t ht => let ⟨a, b⟩ := h.ok t ht; ⟨w _ _ a, b⟩, h.nd, h.eq⟩
theorem RowsOk.snoc {n : Nat} {P Q : Int → Int → Prop} {a b b' : List Int} {rows : List (Int × Int × Int)} {p k m : Int} (h : RowsOk n P a b rows) (w : ∀ x y, P x y → Q x y) (q : Q p k) (no : ∀ x y, P x y → ¬ (x = p ∧ y = k)) (k0 : 0 ≤ k) (k1 : k < n) (mz : ¬ m = 0)
    (hb : ∀ x, Ld.at' b' x = Ld.at' b x + Rg.rv n (p, k, -m) x) : RowsOk n Q a b' (rows ++ [(p, k, m)]) := by
  refine ⟨fun t ht => ?_, ?_, fun x => ?_⟩
  · rcases List.mem_append.mp ht with z | z
    · obtain ⟨a, b⟩ := h.ok t z; exact ⟨w _ _ a, b⟩
    · rw [List.mem_singleton.mp z]; exact ⟨q, k0, k1, mz⟩
  · rw [List.map_append, List.nodup_append]
    refine ⟨h.nd, by simp, fun x hx y hy e => ?_⟩
    obtain ⟨t, ht, et⟩ := List.mem_map.mp hx
    have ey : y = (p, k) := by simpa using hy
    refine no _ _ (h.ok t ht).1 ?_
    rw [e, ey] at et
    exact ⟨congrArg Prod.fst et, congrArg Prod.snd et⟩
  · rw [Rg.rvs_snoc, hb, h.eq, rv_neg]; omega
end Rt
set_option linter.all false
namespace Rt
open Pt (Parts)
theorem R_keeps_zero {n : Nat} {p' q' u' : Int} : ∀ {l : List ((Int × Int) × Int)}, (∀ z ∈ l, q' ∣ (n : Int) / z.1.1) → ∀ {f : Int → Int}, (∀ k, top p' q' u' k = p' - 1 → f k = 0) → ∀ k, top p' q' u' k = p' - 1 → R n l f k = 0
  | [], _, f, hf, k, t => hf k t
  | z :: l, h, f, hf, k, t => R_keeps_zero (l := l) (fun y hy => h y (List.mem_cons_of_mem _ hy)) (fun k t => E_keeps_zero (h z List.mem_cons_self) hf k t) k t
theorem R_drop {n : Nat} {ps : List (Int × Int)} (hp : Parts n ps) : ∀ {l : List ((Int × Int) × Int)}, (∀ z ∈ l, Pc n z.1.1 z.1.2 z.2) → (∀ z ∈ l, z.1 ∈ ps) → l.Pairwise (fun y z => y.1.1 ≠ z.1.1) → ∀ {z : (Int × Int) × Int}, z ∈ l → ∀ (f : Int → Int) (k : Int), top z.1.1 z.1.2 z.2 k = z.1.1 - 1 → R n l f k = 0
  | [], _, _, _, z, hz, f, k, t => by cases hz
  | y :: l, hpc, hm, nd, z, hz, f, k, t => by
    have ⟨n1, n2⟩ := List.pairwise_cons.mp nd
    simp only [R]
    rcases List.mem_cons.mp hz with w | w
    · subst w
      refine R_keeps_zero (fun x hx => ?_) (fun k t => (hpc z List.mem_cons_self).E_drop f t) k t
      exact cross' hp (hm z List.mem_cons_self) (hm x (List.mem_cons_of_mem _ hx)) (n1 x hx)
    · exact R_drop hp (l := l) (fun x hx => hpc x (List.mem_cons_of_mem _ hx)) (fun x hx => hm x (List.mem_cons_of_mem _ hx)) n2 w _ k t
theorem Ld'.nd {n : Nat} {ps : List (Int × Int)} {l : List ((Int × Int) × Int)} (h : Ld' n ps l) : l.Pairwise (fun y z => y.1.1 ≠ z.1.1) := by
  have s := h.hp.srt
  rw [← h.map, List.pairwise_map] at s
  exact s.imp fun w => by omega
theorem Ld'.drop {n : Nat} {ps : List (Int × Int)} {l : List ((Int × Int) × Int)} (h : Ld' n ps l) {z : (Int × Int) × Int} (hz : z ∈ l) (f : Int → Int) (k : Int) (t : top z.1.1 z.1.2 z.2 k = z.1.1 - 1) : R n l f k = 0 :=
  R_drop h.hp (fun z hz => h.pc hz) (fun z hz => by rw [← h.map]; exact List.mem_map.mpr ⟨z, hz, rfl⟩) h.nd hz f k t
theorem R_fix {n : Nat} : ∀ {l : List ((Int × Int) × Int)}, (∀ z ∈ l, Pc n z.1.1 z.1.2 z.2) → ∀ {f : Int → Int}, (∀ z ∈ l, ∀ k, top z.1.1 z.1.2 z.2 k = z.1.1 - 1 → f k = 0) → R n l f = f
  | [], _, f, _ => rfl
  | z :: l, h, f, hf => by
    simp only [R]
    have e : E n z.1.1 z.1.2 z.2 f = f := funext fun k => by
      unfold E
      rw [hf z List.mem_cons_self _ ((h z List.mem_cons_self).top_dl k), Int.sub_zero]
    rw [e]
    exact R_fix (fun y hy => h y (List.mem_cons_of_mem _ hy)) fun y hy => hf y (List.mem_cons_of_mem _ hy)
theorem R_gone {n N : Nat} {l' : List ((Int × Int) × Int)} {P : Int → Prop} (Φ : (Int → Int) → Int → Int) (add : ∀ f g, Φ (fun x => f x + g x) = fun x => Φ f x + Φ g x) (zero : ∀ x, Φ (fun _ => 0) x = 0) (kill : ∀ (f : Int → Int) (p : Int), Ld.Per n f → P p → Inv n p f → ∀ k, R N l' (Φ f) k = 0) :
    ∀ {l : List ((Int × Int) × Int)}, (∀ z ∈ l, Pc n z.1.1 z.1.2 z.2) → (∀ z ∈ l, P z.1.1) → ∀ {f : Int → Int}, Ld.Per n f → ∀ k, R N l' (Φ fun x => f x - R n l f x) k = 0
  | [], _, _, f, _, k => by
    have : (fun x => f x - R n [] f x) = fun _ => 0 := funext fun x => by simp [R]
    rw [this]
    exact R_zero N l' zero k
  | z :: l, h, hP, f, hf, k => by
    have pc := h z List.mem_cons_self
    have e : (fun x => f x - R n (z :: l) f x) = fun x => f (dl n z.1.1 z.1.2 z.2 x) + (E n z.1.1 z.1.2 z.2 f x - R n l (E n z.1.1 z.1.2 z.2 f) x) := funext fun x => by
      simp only [R]
      show f x - _ = f (dl n z.1.1 z.1.2 z.2 x) + ((f x - f (dl n z.1.1 z.1.2 z.2 x)) - _)
      omega
    rw [e, add, R_add, R_gone Φ add zero kill (l := l) (fun y hy => h y (List.mem_cons_of_mem _ hy)) (fun y hy => hP y (List.mem_cons_of_mem _ hy)) (pc.E_per hf) k]
    have per : Ld.Per n fun x => f (dl n z.1.1 z.1.2 z.2 x) := fun x y w => by
      refine hf _ _ ?_
      unfold dl
      rw [pc.top_per w]
      exact Ld.emod_add_of _ w
    rw [kill _ z.1.1 per (hP z List.mem_cons_self) fun k t => hf _ _ (pc.dl_step k t)]; rfl
end Rt
set_option linter.all false
namespace Rt
open Pt (Parts)
theorem top_lead {n : Nat} {ps : List (Int × Int)} (hp : Parts n ps) {x : Int × Int} (hx : x ∈ ps) {u u' : Int} (hu : ((n : Int) / x.2 * u - 1) % x.2 = 0) (hu' : ((n : Int) / x.2 * u' - 1) % x.2 = 0) (k : Int) : top x.1 x.2 u k = top x.1 x.2 u' k := by
  obtain ⟨_, _, _, _, q2, _⟩ := Rs.part_cof hp hx
  have a := Rs.sh_of (n := (n : Int)) (q := x.2) (hole := k) (u := u) (by omega) hu
  have b := Rs.sh_of (n := (n : Int)) (q := x.2) (hole := k) (u := u') (by omega) hu'
  unfold top
  rw [Rs.sh_one (Rs.cop_part hp hx) a b (by rw [Int.sub_self]; exact Int.dvd_zero _)]
theorem R_lead {n : Nat} {ps : List (Int × Int)} (hp : Parts n ps) : ∀ {l l' : List ((Int × Int) × Int)}, l.map Prod.fst = l'.map Prod.fst → (∀ z ∈ l, z.1 ∈ ps) → (∀ z ∈ l, ((n : Int) / z.1.2 * z.2 - 1) % z.1.2 = 0) → (∀ z ∈ l', ((n : Int) / z.1.2 * z.2 - 1) % z.1.2 = 0) → ∀ f, R n l f = R n l' f
  | [], [], _, _, _, _, f => rfl
  | [], _ :: _, e, _, _, _, f => by simp at e
  | _ :: _, [], e, _, _, _, f => by simp at e
  | z :: l, z' :: l', e, hm, h, h', f => by
    rw [List.map_cons, List.map_cons, List.cons.injEq] at e
    obtain ⟨e1, e2⟩ := e
    simp only [R]
    have ee : E n z.1.1 z.1.2 z.2 f = E n z'.1.1 z'.1.2 z'.2 f := funext fun k => by
      have a := h z List.mem_cons_self
      have b := h' z' List.mem_cons_self
      rw [← e1] at b ⊢
      unfold E dl
      rw [top_lead hp (hm z List.mem_cons_self) a b]
    rw [ee]
    exact R_lead hp e2 (fun y hy => hm y (List.mem_cons_of_mem _ hy)) (fun y hy => h y (List.mem_cons_of_mem _ hy)) (fun y hy => h' y (List.mem_cons_of_mem _ hy)) _
theorem Ld'.one {n : Nat} {ps ps' : List (Int × Int)} {l l' : List ((Int × Int) × Int)} (h : Ld' n ps l) (h' : Ld' n ps' l') (f : Int → Int) : R n l f = R n l' f := by
  have e := Pt.parts_one h'.hp h.hp
  subst e
  exact R_lead h.hp (h.map.trans h'.map.symm) (fun z hz => by rw [← h.map]; exact List.mem_map.mpr ⟨z, hz, rfl⟩) h.le h'.le f
theorem Ld'.again {n : Nat} {ps : List (Int × Int)} {l : List ((Int × Int) × Int)} (h : Ld' n ps l) (f : Int → Int) : R n l (R n l f) = R n l f := R_fix (fun z hz => h.pc hz) fun z hz k t => h.drop hz f k t
theorem Ld'.deed {n : Nat} {ps : List (Int × Int)} {l : List ((Int × Int) × Int)} (h : Ld' n ps l) (Φ : (Int → Int) → Int → Int) (add : ∀ f g, Φ (fun x => f x + g x) = fun x => Φ f x + Φ g x) (zero : ∀ x, Φ (fun _ => 0) x = 0) (inv : ∀ (f : Int → Int) (p : Int), p ∣ (n : Int) → Ld.Per n f → Inv n p f → Inv n p (Φ f)) {f : Int → Int} (hf : Ld.Per n f) :
    R n l (Φ f) = R n l (Φ (R n l f)) := funext fun k => by
  have gone := R_gone (n := n) (N := n) (l' := l) (P := fun p => p ∈ ps.map Prod.fst) Φ add zero (fun g p hg hP hi k => by
    obtain ⟨x, hx, ex⟩ := List.mem_map.mp hP
    have pd : p ∣ (n : Int) := by rw [← ex]; exact ((Pt.part_iff h.hp x).mp hx).2.1
    refine h.kill hx ?_ k
    rw [ex]
    exact inv g p pd hg hi) (l := l) (fun z hz => h.pc hz) (fun z hz => by rw [← h.map]; exact List.mem_map.mpr ⟨z.1, List.mem_map.mpr ⟨z, hz, rfl⟩, rfl⟩) hf k
  have e : Φ f = fun x => Φ (fun y => f y - R n l f y) x + Φ (R n l f) x := by
    rw [← add]; congr 1; funext y; omega
  rw [e, R_add, gone, Int.zero_add]
theorem Ld'.turn {n : Nat} {ps : List (Int × Int)} {l : List ((Int × Int) × Int)} (h : Ld' n ps l) {f : Int → Int} (hf : Ld.Per n f) (far : Int) : R n l (fun x => f (x - far)) = R n l (fun x => R n l f (x - far)) :=
  h.deed (fun g x => g (x - far)) (fun _ _ => rfl) (fun _ => rfl) (fun g p _ _ hi k t => by
    show g (k + t * ((n : Int) / p) - far) = g (k - far)
    rw [show k + t * ((n : Int) / p) - far = k - far + t * ((n : Int) / p) by omega, hi]) hf
def cv (n : Nat) (f g : Int → Int) (x : Int) : Int := Ld.S n fun j => f j * g (x - j)
theorem cv_comm {n : Nat} (hn : 0 < n) {f g : Int → Int} (hf : Ld.Per n f) (hg : Ld.Per n g) (x : Int) : cv n f g x = cv n g f x := by
  unfold cv
  have p : Ld.Per n fun j => f j * g (x - j) := Ld.per_mul hf (Ld.per_shift hg x)
  rw [← Ld.S_refl hn p x]
  refine Ld.S_congr fun j _ => ?_
  show f (x - j) * g (x - (x - j)) = _
  rw [show x - (x - (j : Int)) = j by omega, Int.mul_comm]
theorem cv_inv {n : Nat} {p : Int} {f g : Int → Int} (hi : Inv n p g) : Inv n p (cv n f g) := fun k t => by
  unfold cv
  refine Ld.S_congr fun j _ => ?_
  rw [show k + t * ((n : Int) / p) - j = k - j + t * ((n : Int) / p) by omega, hi]
theorem cv_inv' {n : Nat} (hn : 0 < n) {p : Int} {f g : Int → Int} (hf : Ld.Per n f) (hg : Ld.Per n g) (hi : Inv n p f) : Inv n p (cv n f g) := fun k t => by
  rw [cv_comm hn hf hg, cv_comm hn hf hg]
  exact cv_inv hi k t
theorem Ld'.conv {n : Nat} {ps : List (Int × Int)} {l : List ((Int × Int) × Int)} (h : Ld' n ps l) {f g : Int → Int} (hf : Ld.Per n f) (hg : Ld.Per n g) : R n l (cv n f g) = R n l (cv n (R n l f) (R n l g)) := by
  have n1 := h.n1
  have a := h.deed (fun f' => cv n f' g) (fun f1 f2 => funext fun x => by unfold cv; rw [← Ld.S_add]; exact Ld.S_congr fun j _ => by rw [Int.add_mul]) (fun x => by unfold cv; rw [Ld.S_congr (G := fun _ => 0) fun j _ => by rw [Int.zero_mul], Ld.S_zero])
    (fun f' p _ hf' hi => cv_inv' n1 hf' hg hi) hf
  have b := h.deed (fun g' => cv n (R n l f) g') (fun f1 f2 => funext fun x => by unfold cv; rw [← Ld.S_add]; exact Ld.S_congr fun j _ => by rw [Int.mul_add]) (fun x => by unfold cv; rw [Ld.S_congr (G := fun _ => 0) fun j _ => by rw [Int.mul_zero], Ld.S_zero])
    (fun g' p _ _ hi => cv_inv hi) hg
  rw [a, b]
end Rt
set_option linter.all false
namespace Rt
theorem R_bd {n : Nat} : ∀ {l : List ((Int × Int) × Int)} {B : Nat} {f : Int → Int}, (∀ k, (f k).natAbs ≤ B) → ∀ k, (R n l f k).natAbs ≤ 2 ^ l.length * B
  | [], B, f, h, k => by simp only [R, List.length_nil, Nat.pow_zero, Nat.one_mul]; exact h k
  | z :: l, B, f, h, k => by
    simp only [R, List.length_cons]
    have := R_bd (n := n) (l := l) (B := 2 * B) (f := E n z.1.1 z.1.2 z.2 f) (fun k => by
      unfold E
      have a := h k
      have b := h (dl n z.1.1 z.1.2 z.2 k)
      omega) k
    rw [Nat.pow_succ, Nat.mul_assoc]; exact this
theorem Ld'.bd {n : Nat} {ps : List (Int × Int)} {l : List ((Int × Int) × Int)} (h : Ld' n ps l) (n2 : n ≤ 420) {a b : List Int} {B : Nat} (ha : Ld.Bd (2 ^ B) a) (bv : ∀ x, Ld.at' b x = R n l (Ld.at' a) x) : Ld.Bd (2 ^ (8 + B)) b := Ld.bd_of fun k _ => by
  rw [bv]
  refine Nat.le_trans (R_bd (fun k => Ld.at_bd ha k) k) ?_
  rw [Nat.pow_add]
  refine Nat.mul_le_mul_right _ (Nat.pow_le_pow_right (by decide) ?_)
  have := few_parts h.hp n2
  rw [← h.map, List.length_map] at this
  exact this
end Rt
set_option linter.all false
namespace Rt
open Pt (Parts)
theorem lead_ex {n : Nat} {ps : List (Int × Int)} (hp : Parts n ps) {x : Int × Int} (hx : x ∈ ps) : ∃ v : Int, 1 ≤ v ∧ v < x.2 ∧ v * ((n : Int) / x.2) % x.2 = 1 := by
  obtain ⟨_, _, _, _, q2, _⟩ := Rs.part_cof hp hx
  have g := Rs.G_part hp hx
  have eq : ((x.2.toNat : Nat) : Int) = x.2 := Int.toNat_of_nonneg (by omega)
  obtain ⟨v, hv⟩ := Ld.inv_of (st := (n : Int) / x.2) (n := x.2.toNat) (by omega) (by rw [eq]; exact g)
  rw [eq] at hv
  have one : (1 : Int) % x.2 = 1 := Int.emod_eq_of_lt (by decide) (by omega)
  rw [one] at hv
  have h0 := Int.emod_nonneg v (show x.2 ≠ 0 by omega)
  have h1 := Int.emod_lt_of_pos v (show 0 < x.2 by omega)
  have e : (v % x.2) * ((n : Int) / x.2) % x.2 = 1 := by
    rw [← hv, Int.mul_comm ((n : Int) / x.2) v, Int.mul_emod, Int.emod_emod_of_dvd _ (Int.dvd_refl _), ← Int.mul_emod]
  refine ⟨v % x.2, ?_, h1, e⟩
  rcases Int.lt_or_le (v % x.2) 1 with z | z
  · have : v % x.2 = 0 := by omega
    rw [this, Int.zero_mul, Int.zero_emod] at e
    omega
  · exact z
theorem lead_of {n q u : Int} (hq : 2 ≤ q) (h : u * (n / q) % q = 1) : (n / q * u - 1) % q = 0 := by
  have one : (1 : Int) % q = 1 := Int.emod_eq_of_lt (by decide) (by omega)
  exact Int.emod_eq_emod_iff_emod_sub_eq_zero.mp (by rw [Int.mul_comm, h, one])
theorem snd_one {n : Int} {ps : List (Int × Int)} (hp : Parts n ps) {x y : Int × Int} (hx : x ∈ ps) (hy : y ∈ ps) (e : x.1 = y.1) : x = y := by
  rcases List.mem_iff_getElem.mp hx with ⟨i, hi, ei⟩
  rcases List.mem_iff_getElem.mp hy with ⟨j, hj, ej⟩
  have pw := List.pairwise_iff_getElem.mp hp.srt
  rcases Nat.lt_trichotomy i j with g | g | g
  · have := pw i j hi hj g; rw [ei, ej] at this; omega
  · subst g; rw [← ei, ej]
  · have := pw j i hj hi g; rw [ei, ej] at this; omega
end Rt
set_option linter.all false
namespace Rt
open Pt (Parts)
def low (p q u k : Int) : Int := (k * u % q) % (q / p)
def fw (p q u j k : Int) : Int := if low p q u j = low p q u k then (if top p q u k = top p q u j then 1 else if top p q u k = p - 1 then -1 else 0) else 0
def V : List ((Int × Int) × Int) → Int → Int → Int
  | [], _, _ => 1
  | z :: l, j, k => fw z.1.1 z.1.2 z.2 j k * V l j k
theorem V_snoc : ∀ (l : List ((Int × Int) × Int)) (z : (Int × Int) × Int) (j k : Int), V (l ++ [z]) j k = V l j k * fw z.1.1 z.1.2 z.2 j k
  | [], z, j, k => by simp [V]
  | y :: l, z, j, k => by
    show fw y.1.1 y.1.2 y.2 j k * V (l ++ [z]) j k = fw y.1.1 y.1.2 y.2 j k * V l j k * fw z.1.1 z.1.2 z.2 j k
    rw [V_snoc l z, Int.mul_assoc]
theorem fw_cases (p q u j k : Int) : fw p q u j k = 0 ∨ fw p q u j k = 1 ∨ fw p q u j k = -1 := by
  unfold fw
  split
  · split
    · exact .inr (.inl rfl)
    · split
      · exact .inr (.inr rfl)
      · exact .inl rfl
  · exact .inl rfl
theorem V_cases : ∀ (l : List ((Int × Int) × Int)) (j k : Int), V l j k = 0 ∨ V l j k = 1 ∨ V l j k = -1
  | [], _, _ => .inr (.inl rfl)
  | z :: l, j, k => by
    have a := fw_cases z.1.1 z.1.2 z.2 j k
    have b := V_cases l j k
    show fw z.1.1 z.1.2 z.2 j k * V l j k = 0 ∨ fw z.1.1 z.1.2 z.2 j k * V l j k = 1 ∨ fw z.1.1 z.1.2 z.2 j k * V l j k = -1
    rcases a with a | a | a <;> rcases b with b | b | b <;> rw [a, b] <;> decide
section
variable {n : Nat} {p q u : Int}
theorem Pc.sr (h : Pc n p q u) (k : Int) : k * u % q = low p q u k + (q / p) * top p q u k := by
  unfold low top; exact (Int.emod_add_mul_ediv _ _).symm
theorem Pc.low_step (h : Pc n p q u) (k t : Int) : low p q u (k + t * ((n : Int) / p)) = low p q u k := by
  obtain ⟨m, em, em', m1⟩ := h.m
  unfold low
  rw [h.step, em']
  have d : m ∣ q := ⟨p, by rw [em, Int.mul_comm]⟩
  rw [Int.emod_emod_of_dvd _ d, Int.emod_emod_of_dvd _ d, Int.add_mul_emod_self_right]
theorem Pc.low_dl (h : Pc n p q u) (k : Int) : low p q u (dl n p q u k) = low p q u k := h.low_step k _
theorem Pc.sr_eq (h : Pc n p q u) (j k : Int) : (j * u % q = k * u % q) ↔ (low p q u j = low p q u k ∧ top p q u j = top p q u k) := by
  constructor
  · intro e; unfold low top; rw [e]; exact ⟨rfl, rfl⟩
  · rintro ⟨a, b⟩; rw [h.sr, h.sr, a, b]
theorem Pc.sr_dvd (h : Pc n p q u) (j k : Int) : (j * u % q = k * u % q) ↔ q ∣ k - j := by
  obtain ⟨c, e, e1, e2⟩ := h.cof
  have d : q ∣ c * u - 1 := by have := Int.dvd_of_emod_eq_zero h.le; rwa [e1] at this
  constructor
  · intro z
    have z1 : q ∣ k * u - j * u := Int.dvd_of_emod_eq_zero (Int.emod_eq_emod_iff_emod_sub_eq_zero.mp z.symm)
    have z2 : q ∣ (k - j) * (c * u) := by
      rw [show (k - j) * (c * u) = (k * u - j * u) * c by rw [← Int.sub_mul, Int.mul_assoc, Int.mul_comm c u]]
      exact Int.dvd_mul_of_dvd_left z1
    have z3 : q ∣ (k - j) * (c * u - 1) := Int.dvd_mul_of_dvd_right d
    have : k - j = (k - j) * (c * u) - (k - j) * (c * u - 1) := by rw [Int.mul_sub, Int.mul_one]; omega
    rw [this]
    exact Int.dvd_sub z2 z3
  · intro z
    refine (Int.emod_eq_emod_iff_emod_sub_eq_zero.mpr (Int.emod_eq_zero_of_dvd ?_)).symm
    rw [← Int.sub_mul]
    exact Int.dvd_mul_of_dvd_left z
theorem Pc.fw_eq (h : Pc n p q u) {j : Int} (t : ¬ top p q u j = p - 1) (k : Int) : fw p q u j k = (if q ∣ k - j then 1 else 0) - (if q ∣ k - dl n p q u j then 1 else 0) := by
  have a : (q ∣ k - j) ↔ (low p q u j = low p q u k ∧ top p q u j = top p q u k) := (h.sr_dvd j k).symm.trans (h.sr_eq j k)
  have b : (q ∣ k - dl n p q u j) ↔ (low p q u j = low p q u k ∧ p - 1 = top p q u k) := by
    have := (h.sr_dvd (dl n p q u j) k).symm.trans (h.sr_eq (dl n p q u j) k)
    rwa [h.low_dl, h.top_dl] at this
  unfold fw
  by_cases l : low p q u j = low p q u k
  · rw [if_pos l]
    by_cases e : top p q u k = top p q u j
    · rw [if_pos e, if_pos (a.mpr ⟨l, e.symm⟩), if_neg (fun z => t (by rw [← e]; exact (b.mp z).2.symm))]; rfl
    · rw [if_neg e, if_neg (fun z => e (a.mp z).2.symm)]
      by_cases g : top p q u k = p - 1
      · rw [if_pos g, if_pos (b.mpr ⟨l, g.symm⟩)]; rfl
      · rw [if_neg g, if_neg (fun z => g (b.mp z).2.symm)]; rfl
  · rw [if_neg l, if_neg (fun z => l (a.mp z).1), if_neg (fun z => l (b.mp z).1)]; rfl
theorem cross_sr {p' : Int} (d : q ∣ (n : Int) / p') (k t : Int) : (k + t * ((n : Int) / p')) * u % q = k * u % q := by
  obtain ⟨c, e⟩ := d
  rw [e, Int.add_mul, show t * (q * c) * u = q * (t * c * u) by rw [← Int.mul_assoc t q c, Int.mul_comm t q, Int.mul_assoc, Int.mul_assoc, Int.mul_assoc], Int.add_mul_emod_self_left]
theorem cross_low {p' : Int} (d : q ∣ (n : Int) / p') (k t : Int) : low p q u (k + t * ((n : Int) / p')) = low p q u k := by unfold low; rw [cross_sr d]
theorem cross_fw {p' : Int} (d : q ∣ (n : Int) / p') (j t k : Int) : fw p q u (j + t * ((n : Int) / p')) k = fw p q u j k := by unfold fw; rw [cross_low d, cross_top d]
end
theorem cross_V {n : Nat} {p' : Int} : ∀ {l : List ((Int × Int) × Int)}, (∀ z ∈ l, z.1.2 ∣ (n : Int) / p') → ∀ j t k : Int, V l (j + t * ((n : Int) / p')) k = V l j k
  | [], _, _, _, _ => rfl
  | z :: l, h, j, t, k => by
    show fw z.1.1 z.1.2 z.2 (j + t * ((n : Int) / p')) k * V l (j + t * ((n : Int) / p')) k = fw z.1.1 z.1.2 z.2 j k * V l j k
    rw [cross_fw (h z List.mem_cons_self), cross_V (fun y hy => h y (List.mem_cons_of_mem _ hy))]
def X : List ((Int × Int) × Int) → Int → Int → Int
  | [], _, _ => 1
  | z :: l, j, k => (if z.1.2 ∣ k - j then 1 else 0) * X l j k
theorem X_val : ∀ (l : List ((Int × Int) × Int)) (j k : Int), X l j k = if (∀ z ∈ l, z.1.2 ∣ k - j) then 1 else 0
  | [], j, k => by simp [X]
  | z :: l, j, k => by
    show (if z.1.2 ∣ k - j then 1 else 0) * X l j k = _
    rw [X_val l]
    by_cases a : z.1.2 ∣ k - j
    · by_cases b : ∀ z ∈ l, z.1.2 ∣ k - j
      · rw [if_pos a, if_pos b, if_pos (fun y hy => by rcases List.mem_cons.mp hy with e | e; rw [e]; exact a; exact b y e)]; rfl
      · rw [if_pos a, if_neg b, if_neg (fun y => b fun x hx => y x (List.mem_cons_of_mem _ hx))]; rfl
    · rw [if_neg a, Int.zero_mul, if_neg (show ¬ ∀ y ∈ z :: l, y.1.2 ∣ k - j from fun y => a (y z List.mem_cons_self))]
theorem cross_X {n : Nat} {p' : Int} : ∀ {l : List ((Int × Int) × Int)}, (∀ z ∈ l, z.1.2 ∣ (n : Int) / p') → ∀ j t k : Int, X l (j + t * ((n : Int) / p')) k = X l j k
  | [], _, _, _, _ => rfl
  | z :: l, h, j, t, k => by
    show (if z.1.2 ∣ k - (j + t * ((n : Int) / p')) then 1 else 0) * X l (j + t * ((n : Int) / p')) k = (if z.1.2 ∣ k - j then 1 else 0) * X l j k
    rw [cross_X (fun y hy => h y (List.mem_cons_of_mem _ hy))]
    congr 1
    have d : z.1.2 ∣ t * ((n : Int) / p') := Int.dvd_mul_of_dvd_right (h z List.mem_cons_self)
    by_cases c : z.1.2 ∣ k - j
    · rw [if_pos c, if_pos (by rw [show k - (j + t * ((n : Int) / p')) = (k - j) - t * ((n : Int) / p') by omega]; exact Int.dvd_sub c d)]
    · rw [if_neg c, if_neg (fun z => c (by rw [show k - j = (k - (j + t * ((n : Int) / p'))) + t * ((n : Int) / p') by omega]; exact Int.dvd_add z d))]
theorem Ld'.dv {n : Nat} {ps : List (Int × Int)} {l : List ((Int × Int) × Int)} (h : Ld' n ps l) {j k : Int} (d : ∀ z ∈ l, z.1.2 ∣ k - j) : (n : Int) ∣ k - j := by
  have := Rs.all_dvd (t := k - j) h.hp.row h.hp.srt (fun x hx => by
    rw [← h.map] at hx
    obtain ⟨z, hz, e⟩ := List.mem_map.mp hx
    rw [← e]; exact d z hz)
  rwa [h.hp.prd] at this
theorem Ld'.Xn {n : Nat} {ps : List (Int × Int)} {l : List ((Int × Int) × Int)} (h : Ld' n ps l) (j k : Int) : X l j k = if (n : Int) ∣ k - j then 1 else 0 := by
  rw [X_val]
  by_cases c : (n : Int) ∣ k - j
  · rw [if_pos c, if_pos (fun z hz => Int.dvd_trans (h.pc hz).qn c)]
  · rw [if_neg c, if_neg (fun d => c (h.dv d))]
theorem S_at {n : Nat} (hn : 1 ≤ n) {f : Int → Int} (hf : Ld.Per n f) (j : Int) : Ld.S n (fun k => f k * (if (n : Int) ∣ k - j then 1 else 0)) = f j := by
  have j0 := Int.emod_nonneg j (show (n : Int) ≠ 0 by omega)
  have j1 := Int.emod_lt_of_pos j (show 0 < (n : Int) by omega)
  have e : Ld.S n (fun k => f k * (if (n : Int) ∣ k - j then 1 else 0)) = Ld.S n (fun k => if k = j % n then f k else 0) := Ld.S_congr fun k hk => by
    by_cases c : ((k : Nat) : Int) = j % n
    · rw [if_pos c, if_pos (by rw [c]; exact Int.dvd_of_emod_eq_zero (by rw [Int.sub_emod, Int.emod_emod_of_dvd _ (Int.dvd_refl _), Int.sub_self]; rfl)), Int.mul_one]
    · rw [if_neg c, if_neg, Int.mul_zero]
      intro z
      refine c ?_
      have := Int.emod_eq_emod_iff_emod_sub_eq_zero.mpr (Int.emod_eq_zero_of_dvd z)
      rwa [Int.emod_eq_of_lt (by omega) (by omega)] at this
  rw [e, Ld.S_one j0, if_pos j1, hf.md]
theorem Ld'.nd' {n : Nat} {ps : List (Int × Int)} {l : List ((Int × Int) × Int)} (h : Ld' n ps l) {i j : Nat} {y z : (Int × Int) × Int} (ne : i ≠ j) (ei : l[i]? = some y) (ej : l[j]? = some z) : y.1.2 ∣ (n : Int) / z.1.1 := by
  have pw := List.pairwise_iff_getElem.mp h.nd
  obtain ⟨hi, ei'⟩ := List.getElem?_eq_some_iff.mp ei
  obtain ⟨hj, ej'⟩ := List.getElem?_eq_some_iff.mp ej
  have my : y.1 ∈ ps := by rw [← h.map]; exact List.mem_map.mpr ⟨y, List.mem_of_getElem? ei, rfl⟩
  have mz : z.1 ∈ ps := by rw [← h.map]; exact List.mem_map.mpr ⟨z, List.mem_of_getElem? ej, rfl⟩
  refine cross' h.hp my mz ?_
  rcases Nat.lt_or_ge i j with g | g
  · have := pw i j hi hj g; rwa [ei', ej'] at this
  · have := pw j i hj hi (by omega); rw [ei', ej'] at this; exact fun e => this e.symm
theorem Ld'.wsum' {n : Nat} {ps : List (Int × Int)} {l : List ((Int × Int) × Int)} (h : Ld' n ps l) {f : Int → Int} (hf : Ld.Per n f) : ∀ i : Nat, i ≤ l.length → ∀ j : Int, (∀ z ∈ l.take i, ¬ top z.1.1 z.1.2 z.2 j = z.1.1 - 1) → R n (l.take i) f j = Ld.S n (fun k => f k * (V (l.take i) j k * X (l.drop i) j k)) := by
  intro i
  induction i with
  | zero =>
    intro _ j _
    rw [List.take_zero, List.drop_zero]
    show f j = _
    rw [← S_at h.n1 hf j]
    refine Ld.S_congr fun k _ => ?_
    show _ = f k * (1 * X l j k)
    rw [h.Xn, Int.one_mul]
  | succ i ih =>
    intro il j hj
    have ei : l[i]? = some l[i] := List.getElem?_eq_getElem (by omega)
    have et : l.take (i + 1) = l.take i ++ [l[i]] := Pt.take_snoc ei
    have ed : l.drop i = l[i] :: l.drop (i + 1) := List.drop_eq_getElem_cons (by omega)
    have pc := h.pc (List.getElem_mem (by omega : i < l.length))
    have tz : ¬ top l[i].1.1 l[i].1.2 l[i].2 j = l[i].1.1 - 1 := hj _ (by rw [et]; exact List.mem_append_right _ (by simp))
    have ca : ∀ y ∈ l.take i, y.1.2 ∣ (n : Int) / l[i].1.1 := fun y hy => by
      obtain ⟨a, ha, ea⟩ := List.mem_iff_getElem.mp hy
      rw [List.length_take] at ha
      rw [List.getElem_take] at ea
      exact h.nd' (i := a) (j := i) (by omega) (by rw [← ea]; exact List.getElem?_eq_getElem (by omega)) ei
    have cb : ∀ y ∈ l.drop (i + 1), y.1.2 ∣ (n : Int) / l[i].1.1 := fun y hy => by
      obtain ⟨a, ha, ea⟩ := List.mem_iff_getElem.mp hy
      rw [List.length_drop] at ha
      rw [List.getElem_drop] at ea
      exact h.nd' (i := i + 1 + a) (j := i) (by omega) (by rw [← ea]; exact List.getElem?_eq_getElem (by omega)) ei
    have hj' : ∀ z ∈ l.take i, ¬ top z.1.1 z.1.2 z.2 j = z.1.1 - 1 := fun z hz => hj z (by rw [et]; exact List.mem_append_left _ hz)
    generalize l[i] = z at *
    have e1 := ih (by omega) j hj'
    have e2 := ih (by omega) (dl n z.1.1 z.1.2 z.2 j) fun y hy => by unfold dl; rw [cross_top (ca y hy)]; exact hj' y hy
    rw [et, R_snoc]
    show R n (l.take i) f j - R n (l.take i) f (dl n z.1.1 z.1.2 z.2 j) = _
    rw [e1, e2, ed]
    have key : ∀ k : Int, f k * (V (l.take i) j k * X (z :: l.drop (i + 1)) j k) = f k * (V (l.take i ++ [z]) j k * X (l.drop (i + 1)) j k) + f k * (V (l.take i) (dl n z.1.1 z.1.2 z.2 j) k * X (z :: l.drop (i + 1)) (dl n z.1.1 z.1.2 z.2 j) k) := fun k => by
      rw [V_snoc, pc.fw_eq tz]
      show f k * (V (l.take i) j k * ((if z.1.2 ∣ k - j then 1 else 0) * X (l.drop (i + 1)) j k)) = _ + f k * (V (l.take i) (dl n z.1.1 z.1.2 z.2 j) k * ((if z.1.2 ∣ k - dl n z.1.1 z.1.2 z.2 j then 1 else 0) * X (l.drop (i + 1)) (dl n z.1.1 z.1.2 z.2 j) k))
      have x1 : X (l.drop (i + 1)) (dl n z.1.1 z.1.2 z.2 j) k = X (l.drop (i + 1)) j k := by unfold dl; exact cross_X cb _ _ _
      have x2 : V (l.take i) (dl n z.1.1 z.1.2 z.2 j) k = V (l.take i) j k := by unfold dl; exact cross_V ca _ _ _
      rw [x1, x2, ← Int.mul_add]
      congr 1
      rw [Int.mul_assoc, ← Int.mul_add, ← Int.add_mul]
      congr 2
      omega
    have s := Ld.S_congr (n := n) (F := fun k => f k * (V (l.take i) j k * X (z :: l.drop (i + 1)) j k)) (G := fun k => f k * (V (l.take i ++ [z]) j k * X (l.drop (i + 1)) j k) + f k * (V (l.take i) (dl n z.1.1 z.1.2 z.2 j) k * X (z :: l.drop (i + 1)) (dl n z.1.1 z.1.2 z.2 j) k)) (fun k _ => key k)
    rw [Ld.S_add] at s
    omega
theorem Ld'.wsum {n : Nat} {ps : List (Int × Int)} {l : List ((Int × Int) × Int)} (h : Ld' n ps l) {f : Int → Int} (hf : Ld.Per n f) {j : Int} (hj : ∀ z ∈ l, ¬ top z.1.1 z.1.2 z.2 j = z.1.1 - 1) : R n l f j = Ld.S n (fun k => f k * V l j k) := by
  have := h.wsum' hf l.length (Nat.le_refl _) j (by rw [List.take_length]; exact hj)
  rw [List.take_length, List.drop_length] at this
  rw [this]
  exact Ld.S_congr fun k _ => by show f k * (V l j k * 1) = _; rw [Int.mul_one]
theorem Ld'.seen {n : Nat} {ps : List (Int × Int)} {l : List ((Int × Int) × Int)} (h : Ld' n ps l) (a : Int) : ∃ j : Int, (∀ z ∈ l, ¬ top z.1.1 z.1.2 z.2 j = z.1.1 - 1) ∧ ¬ V l j a = 0 := by
  have key : ∀ i : Nat, i ≤ l.length → ∃ j : Int, (∀ z ∈ l.take i, ¬ top z.1.1 z.1.2 z.2 j = z.1.1 - 1) ∧ ¬ V (l.take i) j a = 0 ∧ ∀ z ∈ l.drop i, low z.1.1 z.1.2 z.2 j = low z.1.1 z.1.2 z.2 a ∧ top z.1.1 z.1.2 z.2 j = top z.1.1 z.1.2 z.2 a := by
    intro i
    induction i with
    | zero => intro _; exact ⟨a, by simp, by simp [V], fun z _ => ⟨rfl, rfl⟩⟩
    | succ i ih =>
      intro il
      obtain ⟨j, j1, j2, j3⟩ := ih (by omega)
      have ei : l[i]? = some l[i] := List.getElem?_eq_getElem (by omega)
      have et : l.take (i + 1) = l.take i ++ [l[i]] := Pt.take_snoc ei
      have ed : l.drop i = l[i] :: l.drop (i + 1) := List.drop_eq_getElem_cons (by omega)
      have pc := h.pc (List.getElem_mem (by omega : i < l.length))
      have ca : ∀ y ∈ l.take i, y.1.2 ∣ (n : Int) / l[i].1.1 := fun y hy => by
        obtain ⟨b, ha, ea⟩ := List.mem_iff_getElem.mp hy
        rw [List.length_take] at ha
        rw [List.getElem_take] at ea
        exact h.nd' (i := b) (j := i) (by omega) (by rw [← ea]; exact List.getElem?_eq_getElem (by omega)) ei
      have cb : ∀ y ∈ l.drop (i + 1), y.1.2 ∣ (n : Int) / l[i].1.1 := fun y hy => by
        obtain ⟨b, ha, ea⟩ := List.mem_iff_getElem.mp hy
        rw [List.length_drop] at ha
        rw [List.getElem_drop] at ea
        exact h.nd' (i := i + 1 + b) (j := i) (by omega) (by rw [← ea]; exact List.getElem?_eq_getElem (by omega)) ei
      rw [ed] at j3
      have jz := j3 _ List.mem_cons_self
      have j3' : ∀ z ∈ l.drop (i + 1), low z.1.1 z.1.2 z.2 j = low z.1.1 z.1.2 z.2 a ∧ top z.1.1 z.1.2 z.2 j = top z.1.1 z.1.2 z.2 a := fun z hz => j3 z (List.mem_cons_of_mem _ hz)
      rw [et]
      generalize l[i] = z at *
      have p2 := pc.p2
      by_cases c : top z.1.1 z.1.2 z.2 a = z.1.1 - 1
      · have t1 := pc.top_step j 1
        rw [jz.2, c, show z.1.1 - 1 + 1 = z.1.1 by omega, Int.emod_self] at t1
        refine ⟨j + 1 * ((n : Int) / z.1.1), fun y hy => ?_, ?_, fun y hy => ?_⟩
        · rcases List.mem_append.mp hy with w | w
          · rw [cross_top (ca y w)]; exact j1 y w
          · rw [List.mem_singleton.mp w, t1]; omega
        · rw [V_snoc, cross_V ca]
          have : fw z.1.1 z.1.2 z.2 (j + 1 * ((n : Int) / z.1.1)) a = -1 := by
            unfold fw
            rw [pc.low_step, t1, jz.1, if_pos rfl, c, if_neg (by omega), if_pos rfl]
          rw [this]
          omega
        · rw [cross_low (cb y hy), cross_top (cb y hy)]; exact j3' y hy
      · refine ⟨j, fun y hy => ?_, ?_, j3'⟩
        · rcases List.mem_append.mp hy with w | w
          · exact j1 y w
          · rw [List.mem_singleton.mp w, jz.2]; exact c
        · rw [V_snoc]
          have : fw z.1.1 z.1.2 z.2 j a = 1 := by unfold fw; rw [jz.1, jz.2, if_pos rfl, if_pos rfl]
          rw [this, Int.mul_one]
          exact j2
  obtain ⟨j, a1, a2, _⟩ := key l.length (Nat.le_refl _)
  rw [List.take_length] at a1 a2
  exact ⟨j, a1, a2⟩
theorem Ld'.bent {n : Nat} {ps : List (Int × Int)} {l : List ((Int × Int) × Int)} (h : Ld' n ps l) (a : Int) {w : Int} (hw : ¬ w = 0) : ∃ j : Int, ¬ R n l (fun x => if x % n = a % n then w else 0) j = 0 := by
  obtain ⟨j, j1, j2⟩ := h.seen a
  refine ⟨j, ?_⟩
  have n1 := h.n1
  have per : Ld.Per n (fun x => if x % n = a % n then w else 0) := fun x y e => by show (if x % n = a % n then w else 0) = _; rw [e]
  rw [h.wsum per j1]
  have a0 := Int.emod_nonneg a (show (n : Int) ≠ 0 by omega)
  have a1 := Int.emod_lt_of_pos a (show 0 < (n : Int) by omega)
  have e : Ld.S n (fun k => (if k % n = a % n then w else 0) * V l j k) = Ld.S n (fun k => if k = a % n then w * V l j (a % n) else 0) := Ld.S_congr fun k hk => by
    rw [Int.emod_eq_of_lt (show (0 : Int) ≤ (k : Nat) by omega) (show ((k : Nat) : Int) < n by omega)]
    by_cases c : ((k : Nat) : Int) = a % n
    · rw [if_pos c, if_pos c, c]
    · rw [if_neg c, if_neg c, Int.zero_mul]
  rw [e, Ld.S_one (c := a % n) (G := fun _ => w * V l j (a % n)) a0, if_pos a1]
  have ev : V l j (a % n) = V l j a := by
    have hv : ∀ l' : List ((Int × Int) × Int), (∀ z ∈ l', z.1.2 ∣ (n : Int)) → V l' j (a % n) = V l' j a := by
      intro l'
      induction l' with
      | nil => intro _; rfl
      | cons z r ih =>
        intro hz
        show fw z.1.1 z.1.2 z.2 j (a % n) * V r j (a % n) = fw z.1.1 z.1.2 z.2 j a * V r j a
        rw [ih fun y hy => hz y (List.mem_cons_of_mem _ hy)]
        congr 1
        have sr : (a % n) * z.2 % z.1.2 = a * z.2 % z.1.2 := by rw [Int.mul_emod, Int.emod_emod_of_dvd a (hz z List.mem_cons_self), ← Int.mul_emod]
        unfold fw low top
        rw [sr]
    exact hv l fun z hz => (h.pc hz).qn
  rw [ev]
  intro z
  rcases Int.mul_eq_zero.mp z with z | z
  · exact hw z
  · exact j2 z
end Rt
namespace Rt
theorem V_zero : ∀ {l : List ((Int × Int) × Int)} {z : (Int × Int) × Int} {j k : Int}, z ∈ l → fw z.1.1 z.1.2 z.2 j k = 0 → V l j k = 0
  | [], _, _, _, h, _ => by cases h
  | y :: l, z, j, k, h, e => by
    show fw y.1.1 y.1.2 y.2 j k * V l j k = 0
    rcases List.mem_cons.mp h with w | w
    · rw [← w, e, Int.zero_mul]
    · rw [V_zero w e, Int.mul_zero]
end Rt
set_option linter.all false
namespace Rt
open Pt (Parts)
section
variable {n : Nat} {p q u : Int}
theorem Pc.sr_bd (h : Pc n p q u) (k : Int) : 0 ≤ k * u % q ∧ k * u % q < q := ⟨Int.emod_nonneg _ (by have := h.q2; omega), Int.emod_lt_of_pos _ (by have := h.q2; omega)⟩
theorem Pc.last_iff (h : Pc n p q u) (k : Int) : (∃ c : Int, q - q / p ≤ c ∧ c < q ∧ c * ((n : Int) / q) % q = k % q) ↔ top p q u k = p - 1 := by
  obtain ⟨cf, e, e1, e2⟩ := h.cof
  have d : q ∣ cf * u - 1 := by have := Int.dvd_of_emod_eq_zero h.le; rwa [e1] at this
  rw [e1]
  have hb := h.sr_bd k
  obtain ⟨m, em, em', m1⟩ := h.m
  have mq : q / p ≤ q := by
    rw [em', em]
    have := Int.mul_le_mul_of_nonneg_right (show 1 ≤ p by have := h.p2; omega) (show 0 ≤ m by omega)
    omega
  constructor
  · rintro ⟨c, c0, c1, ce⟩
    have z1 : q ∣ c * cf - k := Int.dvd_of_emod_eq_zero (Int.emod_eq_emod_iff_emod_sub_eq_zero.mp ce)
    have z2 : q ∣ c - k * u := by
      have a1 : q ∣ (c * cf - k) * u := Int.dvd_mul_of_dvd_left z1
      have a2 : q ∣ c * (cf * u - 1) := Int.dvd_mul_of_dvd_right d
      have : c - k * u = (c * cf - k) * u - c * (cf * u - 1) := by
        rw [Int.sub_mul, Int.mul_sub, Int.mul_one, Int.mul_assoc]; omega
      rw [this]
      exact Int.dvd_sub a1 a2
    have z3 := Int.emod_eq_emod_iff_emod_sub_eq_zero.mpr (Int.emod_eq_zero_of_dvd z2)
    rw [Int.emod_eq_of_lt (by omega) c1] at z3
    exact (h.top_iff k).mp (by rw [← z3]; exact c0)
  · intro t
    refine ⟨k * u % q, (h.top_iff k).mpr t, hb.2, ?_⟩
    rw [Int.mul_emod, Int.emod_emod_of_dvd _ (Int.dvd_refl q), ← Int.mul_emod]
    refine Int.emod_eq_emod_iff_emod_sub_eq_zero.mpr (Int.emod_eq_zero_of_dvd ?_)
    have : k * u * cf - k = k * (cf * u - 1) := by rw [Int.mul_sub, Int.mul_one, Int.mul_assoc, Int.mul_comm u cf]
    rw [this]
    exact Int.dvd_mul_of_dvd_right d
end
theorem Ld'.ex {n : Nat} {ps : List (Int × Int)} (hn : 1 ≤ n) (hp : Parts n ps) : ∃ l, Ld' n ps l := by
  have key : ∀ qs : List (Int × Int), (∀ x ∈ qs, x ∈ ps) → ∃ l : List ((Int × Int) × Int), l.map Prod.fst = qs ∧ ∀ z ∈ l, ((n : Int) / z.1.2 * z.2 - 1) % z.1.2 = 0 := by
    intro qs
    induction qs with
    | nil => intro _; exact ⟨[], rfl, by simp⟩
    | cons x r ih =>
      intro h
      obtain ⟨l, e, hl⟩ := ih fun y hy => h y (List.mem_cons_of_mem _ hy)
      have hx := h x List.mem_cons_self
      obtain ⟨v, v1, v2, hv⟩ := lead_ex hp hx
      obtain ⟨_, _, _, _, q2, _⟩ := Rs.part_cof hp hx
      refine ⟨(x, v) :: l, by rw [List.map_cons, e], fun z hz => ?_⟩
      rcases List.mem_cons.mp hz with w | w
      · rw [w]; exact lead_of q2 hv
      · exact hl z w
  obtain ⟨l, e, hl⟩ := key ps fun _ h => h
  exact ⟨l, hn, hp, e, hl⟩
def Kp (l : List ((Int × Int) × Int)) (k : Int) : Prop := ∀ z ∈ l, ¬ top z.1.1 z.1.2 z.2 k = z.1.1 - 1
instance (l : List ((Int × Int) × Int)) (k : Int) : Decidable (Kp l k) := by unfold Kp; infer_instance
theorem Kp_per {n : Nat} {ps : List (Int × Int)} {l : List ((Int × Int) × Int)} (h : Ld' n ps l) {x y : Int} (e : x % n = y % n) : Kp l x ↔ Kp l y := by
  unfold Kp
  constructor
  · intro a z hz; rw [← (h.pc hz).top_per e]; exact a z hz
  · intro a z hz; rw [(h.pc hz).top_per e]; exact a z hz
theorem Kp_take {l : List ((Int × Int) × Int)} {i : Nat} {z : (Int × Int) × Int} (e : l[i]? = some z) (k : Int) : Kp (l.take (i + 1)) k ↔ Kp (l.take i) k ∧ ¬ top z.1.1 z.1.2 z.2 k = z.1.1 - 1 := by
  rw [Pt.take_snoc e]
  unfold Kp
  constructor
  · intro h; exact ⟨fun y hy => h y (List.mem_append_left _ hy), h z (List.mem_append_right _ (by simp))⟩
  · rintro ⟨a, b⟩ y hy
    rcases List.mem_append.mp hy with w | w
    · exact a y w
    · rw [List.mem_singleton.mp w]; exact b
def hs (n : Nat) : List Int := (List.range n).map fun (i : Nat) => (i : Int)
theorem hs_len (n : Nat) : (hs n).length = n := by simp [hs]
theorem hs_mem {n : Nat} {k : Int} : k ∈ hs n ↔ 0 ≤ k ∧ k < n := by
  unfold hs
  constructor
  · intro h
    obtain ⟨i, hi, e⟩ := List.mem_map.mp h
    have := List.mem_range.mp hi
    omega
  · intro h
    exact List.mem_map.mpr ⟨k.toNat, List.mem_range.mpr (by omega), by omega⟩
def kps (n : Nat) (l : List ((Int × Int) × Int)) : List Int := (hs n).filter fun k => decide (Kp l k)
theorem kps_nil (n : Nat) : kps n [] = hs n := by
  unfold kps
  rw [List.filter_eq_self]
  intro k _
  exact decide_eq_true (by intro z hz; cases hz)
theorem kps_take {n : Nat} {l : List ((Int × Int) × Int)} {i : Nat} {z : (Int × Int) × Int} (e : l[i]? = some z) : kps n (l.take (i + 1)) = (kps n (l.take i)).filter fun k => decide ¬ top z.1.1 z.1.2 z.2 k = z.1.1 - 1 := by
  unfold kps
  rw [List.filter_filter]
  refine List.filter_congr fun k _ => ?_
  rw [Bool.eq_iff_iff, decide_eq_true_iff, Kp_take e, Bool.and_eq_true, decide_eq_true_iff, decide_eq_true_iff]
  exact and_comm
theorem kps_mem {n : Nat} {l : List ((Int × Int) × Int)} {k : Int} : k ∈ kps n l ↔ (0 ≤ k ∧ k < n) ∧ Kp l k := by
  unfold kps
  rw [List.mem_filter, hs_mem, decide_eq_true_iff]
theorem kps_len (n : Nat) (l : List ((Int × Int) × Int)) : (kps n l).length ≤ n := Nat.le_trans (List.length_filter_le _ _) (Nat.le_of_eq (hs_len n))
theorem Ld'.kps_pos {n : Nat} {ps : List (Int × Int)} {l : List ((Int × Int) × Int)} (h : Ld' n ps l) : 0 < (kps n l).length := by
  obtain ⟨j, j1, _⟩ := h.seen 0
  have n1 := h.n1
  have m0 := Int.emod_nonneg j (show (n : Int) ≠ 0 by omega)
  have m1 := Int.emod_lt_of_pos j (show 0 < (n : Int) by omega)
  have : j % n ∈ kps n l := kps_mem.mpr ⟨⟨m0, m1⟩, (Kp_per h (Int.emod_emod_of_dvd j (Int.dvd_refl _))).mpr j1⟩
  exact List.length_pos_of_mem this
end Rt
set_option linter.all false
namespace Rt
open Pt (Parts)
theorem S_app (F : Int → Int) (a : Nat) : ∀ b : Nat, Ld.S (a + b) F = Ld.S a F + Ld.S b (fun i => F (a + i))
  | 0 => by show Ld.S a F = Ld.S a F + 0; omega
  | b + 1 => by
    show Ld.S (a + b) F + F ((a + b : Nat) : Int) = Ld.S a F + (Ld.S b (fun i => F (a + i)) + F (a + b))
    rw [S_app F a b, Int.natCast_add]; omega
theorem S_ring {st : Nat} (hst : 0 < st) {s : Int} (s0 : 0 ≤ s) (s1 : s < st) (G : Int → Int) : ∀ p : Nat, Ld.S (p * st) (fun k => if (k - s) % st = 0 then G k else 0) = Ld.S p (fun t => G (s + t * st))
  | 0 => by rw [Nat.zero_mul]; rfl
  | p + 1 => by
    rw [Nat.succ_mul, S_app, S_ring hst s0 s1 G p]
    show _ = Ld.S p (fun t => G (s + t * st)) + G (s + p * st)
    congr 1
    have e : Ld.S st (fun i => if (((p * st : Nat) : Int) + i - s) % st = 0 then G (((p * st : Nat) : Int) + i) else 0) = Ld.S st (fun i => if i = s then G (((p * st : Nat) : Int) + i) else 0) := Ld.S_congr fun i hi => by
      have em : (((p * st : Nat) : Int) + (i : Int) - s) % st = ((i : Int) - s) % st := by
        rw [Int.natCast_mul, show (p : Int) * st + i - s = (i - s) + st * p by rw [Int.mul_comm]; omega, Int.add_mul_emod_self_left]
      rw [em]
      by_cases c : (i : Int) = s
      · rw [if_pos c, if_pos (by rw [c, Int.sub_self]; rfl)]
      · rw [if_neg c, if_neg]
        intro z
        obtain ⟨d, hd⟩ := Int.dvd_of_emod_eq_zero z
        have d0 : d = 0 := by
          rcases Int.lt_trichotomy d 0 with g | g | g
          · have := Int.mul_le_mul_of_nonneg_left (show d ≤ -1 by omega) (show 0 ≤ (st : Int) by omega); omega
          · exact g
          · have := Int.mul_le_mul_of_nonneg_left (show 1 ≤ d by omega) (show 0 ≤ (st : Int) by omega); omega
        rw [d0, Int.mul_zero] at hd
        omega
    rw [e, Ld.S_one (G := fun i => G (((p * st : Nat) : Int) + i)) s0, if_pos s1, Int.natCast_mul, Int.add_comm]
theorem Ld'.ring0 {n : Nat} {ps : List (Int × Int)} {l : List ((Int × Int) × Int)} (h : Ld' n ps l) {j : Int} (hj : Kp l j) {p st : Nat} (hp : ((p : Nat) : Int) ∈ ps.map Prod.fst) (hst : 0 < st) (e : n = p * st) {s : Int} (s0 : 0 ≤ s) (s1 : s < st) : Ld.S p (fun t => V l j (s + t * st)) = 0 := by
  rw [← S_ring hst s0 s1 (V l j) p, ← e]
  have n1 := h.n1
  have p0 : 0 < p := by rcases Nat.eq_zero_or_pos p with z | z; (rw [z, Nat.zero_mul] at e; omega); exact z
  have est : (n : Int) / p = st := by rw [e, Int.natCast_mul]; exact Int.mul_ediv_cancel_left _ (by omega)
  have per : Ld.Per n (Rg.rv n ((p : Int), s, 1)) := fun x y exy => by
    unfold Rg.rv
    show (if (x - s) % ((n : Int) / p) = 0 then (1 : Int) else 0) = if (y - s) % ((n : Int) / p) = 0 then 1 else 0
    rw [est]
    have d : (st : Int) ∣ n := ⟨p, by rw [e, Int.natCast_mul, Int.mul_comm]⟩
    have : x % st = y % st := by rw [← Int.emod_emod_of_dvd x d, exy, Int.emod_emod_of_dvd y d]
    rw [Int.sub_emod, this, ← Int.sub_emod]
  have k := h.kill_rows (rows := [((p : Int), s, 1)]) (fun t ht => by rw [List.mem_singleton.mp ht]; exact hp) j
  have er : Rg.rvs n [((p : Int), s, 1)] = Rg.rv n ((p : Int), s, 1) := funext fun x => by unfold Rg.rvs; simp
  rw [er, h.wsum per hj] at k
  refine Eq.trans (Ld.S_congr (G := fun k => Rg.rv n ((p : Int), s, 1) k * V l j k) fun i _ => ?_) k
  unfold Rg.rv
  show _ = (if ((i : Int) - s) % ((n : Int) / p) = 0 then (1 : Int) else 0) * V l j i
  rw [est]
  by_cases c : ((i : Int) - s) % st = 0
  · rw [if_pos c, if_pos c, Int.one_mul]
  · rw [if_neg c, if_neg c, Int.zero_mul]
end Rt
set_option linter.all false
namespace Rt
open Pt (Parts)
end Rt
set_option linter.all false
namespace Ps
open Pt (Prm Parts Row Prd)
end Ps
set_option linter.all false
namespace Sk
open Pt (Prm Parts Row Prd)
theorem per_mul {f : Int → Int} {s : Int} (h : ∀ x, f (x + s) = f x) (x u : Int) : f (x + u * s) = f x := by
  have nat : ∀ (k : Nat) (x : Int), f (x + k * s) = f x := by
    intro k
    induction k with
    | zero => intro x; rw [show x + ((0 : Nat) : Int) * s = x by grind]
    | succ k ih => intro x; rw [show x + ((k + 1 : Nat) : Int) * s = (x + k * s) + s by grind, h, ih]
  rcases Int.le_total 0 u with c | c
  · have e : u = ((u.toNat : Nat) : Int) := by omega
    rw [e]; exact nat _ x
  · have e : u = -(((-u).toNat : Nat) : Int) := by omega
    have := nat (-u).toNat (x + u * s)
    rw [← this]
    congr 1
    grind
def Sq (s t : Int) (a : Int → Int) : Prop := ∀ x, a x - a (x + s) - a (x + t) + a (x + s + t) = 0
theorem Sq.rect {s t : Int} {a : Int → Int} (h : Sq s t a) (b u v : Int) : a (b + u * s + v * t) = a (b + u * s) + a (b + v * t) - a b := by
  have f1 : ∀ x, (fun x => a (x + t) - a x) (x + s) = (fun x => a (x + t) - a x) x := fun x => by
    have := h x
    show a (x + s + t) - a (x + s) = a (x + t) - a x
    omega
  have g1 : ∀ x, (fun x => a (x + u * s) - a x) (x + t) = (fun x => a (x + u * s) - a x) x := fun x => by
    have e : a (x + u * s + t) - a (x + u * s) = a (x + t) - a x := per_mul (f := fun x => a (x + t) - a x) f1 x u
    show a (x + t + u * s) - a (x + t) = a (x + u * s) - a x
    rw [show x + t + u * s = x + u * s + t by grind]
    omega
  have e : a (b + v * t + u * s) - a (b + v * t) = a (b + u * s) - a b := per_mul (f := fun x => a (x + u * s) - a x) g1 b v
  rw [show b + u * s + v * t = b + v * t + u * s by grind]
  omega
theorem sum_zero (f : Nat → Int) : ∀ p : Nat, (∀ k < p, f k = 0) → ((List.range p).map f).sum = 0
  | 0, _ => rfl
  | p + 1, h => by rw [List.range_succ, List.map_append, List.sum_append, sum_zero f p fun k hk => h k (by omega)]; simp [h p (by omega)]
theorem sum_one (f : Nat → Int) {k1 : Nat} : ∀ {p : Nat}, k1 < p → (∀ k < p, k ≠ k1 → f k = 0) → ((List.range p).map f).sum = f k1
  | 0, h, _ => by omega
  | p + 1, h, z => by
    rw [List.range_succ, List.map_append, List.sum_append]
    by_cases e : k1 = p
    · rw [sum_zero f p fun k hk => z k (by omega) (by omega), e]; simp
    · rw [sum_one f (show k1 < p by omega) fun k hk ne => z k (by omega) ne]; simp [z p (by omega) (Ne.symm e)]
theorem pick {p q y : Int} {v : Int} (hp : 0 < p) (hv : (q * v) % p = 1 % p) : ∃ k : Nat, (k : Int) < p ∧ p ∣ y - k * q := by
  have c0 := Int.emod_nonneg (y * v) (show p ≠ 0 by omega)
  have c1 := Int.emod_lt_of_pos (y * v) hp
  refine ⟨(y * v % p).toNat, by omega, ?_⟩
  rw [Int.toNat_of_nonneg c0]
  have e1 := Int.emod_add_mul_ediv (y * v) p
  have d : p ∣ q * v - 1 := Int.dvd_of_emod_eq_zero (by rw [Int.sub_emod, hv]; simp)
  obtain ⟨z, hz⟩ := d
  refine ⟨y * v / p * q - y * z, ?_⟩
  grind
theorem pick_one {p q y : Int} (cop : Nat.Coprime p.natAbs q.natAbs) {k k1 : Nat} (hk : (k : Int) < p) (hk1 : (k1 : Int) < p) (d : p ∣ y - k * q) (d1 : p ∣ y - k1 * q) : k = k1 := by
  have d2 : p ∣ q * ((k1 : Int) - k) := by
    have := Int.dvd_sub d d1
    rwa [show y - k * q - (y - k1 * q) = q * ((k1 : Int) - k) by grind] at this
  obtain ⟨c, hc⟩ := Rs.cdvd_mul cop d2
  have : c = 0 := by
    rcases Int.lt_trichotomy c 0 with g | g | g
    · have := Int.mul_le_mul_of_nonneg_left (show c ≤ -1 by omega) (show 0 ≤ p by omega)
      omega
    · exact g
    · have := Int.mul_le_mul_of_nonneg_left (show 1 ≤ c by omega) (show 0 ≤ p by omega)
      omega
  rw [this] at hc
  omega
structure Two (n : Nat) (p q : Int) (m : Nat) : Prop where
  p2 : 2 ≤ p
  q2 : 2 ≤ q
  m0 : 0 < m
  e : (n : Int) = p * q * m
  cop : Nat.Coprime p.natAbs q.natAbs
  vq : ∃ v, (q * v) % p = 1 % p
  vp : ∃ v, (p * v) % q = 1 % q
theorem Two.s {n m : Nat} {p q : Int} (T : Two n p q m) : (n : Int) / p = q * m := by
  have := T.p2
  rw [T.e, Int.mul_assoc]; exact Int.mul_ediv_cancel_left _ (by omega)
theorem Two.t {n m : Nat} {p q : Int} (T : Two n p q m) : (n : Int) / q = p * m := by
  have := T.q2
  rw [T.e, Int.mul_comm p q, Int.mul_assoc]; exact Int.mul_ediv_cancel_left _ (by omega)
def cr (p q s t : Int) (a : Int → Int) (h low : Int) : List (Int × Int × Int) :=
  (List.range p.toNat).map (fun (k : Nat) => (q, h + k * s, a (h + k * s) - a low)) ++ (List.range q.toNat).map (fun (j : Nat) => (p, low % t + j * t, a (low % t + j * t)))
def Low (p s : Int) (a : Int → Int) (h low : Int) : Prop := ∃ k0 : Nat, (k0 : Int) < p ∧ low = h + k0 * s ∧ ∀ k : Nat, (k : Int) < p → a low ≤ a (h + k * s)
theorem rvs_app (n : Int) (x y : List (Int × Int × Int)) (z : Int) : Rg.rvs n (x ++ y) z = Rg.rvs n x z + Rg.rvs n y z := by unfold Rg.rvs; rw [List.map_append, List.sum_append]
theorem dvd_m {m x y : Int} (d : m ∣ x - y) (y0 : 0 ≤ y) (ym : y < m) : x % m = y := by
  obtain ⟨c, hc⟩ := d
  rw [show x = y + m * c by omega, Int.add_mul_emod_self_left, Int.emod_eq_of_lt y0 ym]
theorem cr_val {n m : Nat} {p q : Int} {a : Int → Int} {h low : Int} (T : Two n p q m) (per : Ld.Per n a) (sq : Sq (q * m) (p * m) a) (h0 : 0 ≤ h) (hm : h < m) (L : Low p (q * m) a h low) (x : Int) :
    Rg.rvs n (cr p q (q * m) (p * m) a h low) x = if x % m = h then a x else 0 := by
  obtain ⟨k0, k0p, rfl, _⟩ := L
  have p2 := T.p2
  have q2 := T.q2
  have m0 := T.m0
  obtain ⟨v, hv⟩ := T.vq
  obtain ⟨v', hv'⟩ := T.vp
  have pn : ((p.toNat : Nat) : Int) = p := by omega
  have qn : ((q.toNat : Nat) : Int) = q := by omega
  unfold cr
  rw [rvs_app]
  unfold Rg.rvs
  rw [List.map_map, List.map_map]
  have lw := Int.emod_add_mul_ediv (h + k0 * (q * m)) (p * m)
  generalize hlt : (h + (k0 : Int) * (q * m)) % (p * m) = lt at lw ⊢
  generalize (h + (k0 : Int) * (q * m)) / (p * m) = w at lw
  have e1 : ∀ k : Nat, ((fun t => Rg.rv (↑n) t x) ∘ fun (k : Nat) => (q, h + ↑k * (q * ↑m), a (h + ↑k * (q * ↑m)) - a (h + ↑k0 * (q * ↑m)))) k = if (x - (h + k * (q * m))) % (p * m) = 0 then a (h + k * (q * m)) - a (h + k0 * (q * m)) else 0 := fun k => by
    show Rg.rv n (q, h + ↑k * (q * ↑m), a (h + ↑k * (q * ↑m)) - a (h + ↑k0 * (q * ↑m))) x = _
    unfold Rg.rv; rw [T.t]
  have e2 : ∀ j : Nat, ((fun t => Rg.rv (↑n) t x) ∘ fun (j : Nat) => (p, lt + ↑j * (p * ↑m), a (lt + ↑j * (p * ↑m)))) j = if (x - (lt + j * (p * m))) % (q * m) = 0 then a (lt + j * (p * m)) else 0 := fun j => by
    show Rg.rv n (p, lt + ↑j * (p * ↑m), a (lt + ↑j * (p * ↑m))) x = _
    unfold Rg.rv; rw [T.s]
  by_cases c : x % m = h
  · rw [if_pos c]
    have xy := Int.emod_add_mul_ediv x m
    rw [c] at xy
    generalize x / (m : Int) = y at xy
    obtain ⟨k1, k1p, d1⟩ := pick (y := y) (show 0 < p by omega) hv
    obtain ⟨j1, j1q, d2⟩ := pick (y := y + p * w) (show 0 < q by omega) hv'
    have i1 : ∀ k : Nat, (x - (h + k * (q * m))) % (p * m) = 0 ↔ p ∣ y - k * q := fun k => by
      rw [← Int.dvd_iff_emod_eq_zero, show x - (h + k * (q * m)) = (y - k * q) * m by grind]
      exact Int.mul_dvd_mul_iff_right (by omega)
    have i2 : ∀ j : Nat, (x - (lt + j * (p * m))) % (q * m) = 0 ↔ q ∣ y + p * w - j * p := fun j => by
      rw [← Int.dvd_iff_emod_eq_zero, show x - (lt + j * (p * m)) = (y + p * w - j * p - k0 * q) * m by grind]
      refine Iff.trans (Int.mul_dvd_mul_iff_right (by omega)) ?_
      constructor
      · intro d; have := Int.dvd_add d (show q ∣ k0 * q from ⟨k0, by grind⟩); rwa [show y + p * w - j * p - k0 * q + k0 * q = y + p * w - j * p by omega] at this
      · intro d; exact Int.dvd_sub d ⟨k0, by grind⟩
    rw [sum_one _ (k1 := k1) (by omega) (fun k hk ne => by rw [e1, if_neg]; exact fun z => ne (pick_one T.cop (by omega) k1p ((i1 k).mp z) d1)),
      sum_one _ (k1 := j1) (by omega) (fun j hj ne => by rw [e2, if_neg]; exact fun z => ne (pick_one (by rw [Nat.Coprime, Nat.gcd_comm]; exact T.cop) (by omega) j1q ((i2 j).mp z) d2)), e1, e2, if_pos ((i1 k1).mpr d1), if_pos ((i2 j1).mpr d2)]
    obtain ⟨z, hz⟩ := id d1
    have r := sq.rect (h + k0 * (q * m)) (k1 - k0) z
    rw [show h + (k0 : Int) * (q * m) + ((k1 : Int) - k0) * (q * m) = h + k1 * (q * m) by grind, show h + (k1 : Int) * (q * m) + z * (p * m) = x by grind] at r
    have dj : q ∣ p * (w + z - j1) := by
      have := Int.dvd_sub d2 (show q ∣ k1 * q from ⟨k1, by grind⟩)
      rwa [show y + p * w - j1 * p - k1 * q = p * (w + z - j1) by grind] at this
    obtain ⟨g, hg⟩ := Rs.cdvd_mul (show Nat.Coprime q.natAbs p.natAbs by rw [Nat.Coprime, Nat.gcd_comm]; exact T.cop) dj
    have pe : a (h + k0 * (q * m) + z * (p * m)) = a (lt + j1 * (p * m)) := by
      refine per _ _ ?_
      rw [show h + (k0 : Int) * (q * m) + z * (p * m) = lt + j1 * (p * m) + n * g by rw [T.e]; grind, Int.add_mul_emod_self_left]
    rw [r, pe]
    omega
  · rw [if_neg c, sum_zero _ _ fun k _ => ?_, sum_zero _ _ fun j _ => ?_]
    · rfl
    · rw [e2, if_neg]
      intro z
      obtain ⟨g, hg⟩ := Int.dvd_of_emod_eq_zero z
      exact c (dvd_m (y := h) ⟨q * g + j * p + k0 * q - p * w, by grind⟩ h0 hm)
    · rw [e1, if_neg]
      intro z
      obtain ⟨g, hg⟩ := Int.dvd_of_emod_eq_zero z
      exact c (dvd_m (y := h) ⟨p * g + k * q, by grind⟩ h0 hm)
inductive Built (p q s t : Int) (a : Int → Int) : Nat → List (Int × Int × Int) → Prop where
  | zero : Built p q s t a 0 []
  | succ {i : Nat} {rows : List (Int × Int × Int)} {low : Int} : Built p q s t a i rows → Low p s a i low → Built p q s t a (i + 1) (rows ++ cr p q s t a i low)
theorem Built.val {n m : Nat} {p q : Int} {a : Int → Int} (T : Two n p q m) (per : Ld.Per n a) (sq : Sq (q * m) (p * m) a) {i : Nat} {rows : List (Int × Int × Int)} (B : Built p q (q * m) (p * m) a i rows) (hi : i ≤ m) (x : Int) :
    Rg.rvs n rows x = if x % m < i then a x else 0 := by
  have m0 := T.m0
  have x0 := Int.emod_nonneg x (show (m : Int) ≠ 0 by omega)
  induction B with
  | zero => rw [if_neg (by omega)]; rfl
  | @succ i rows low B L ih =>
    rw [rvs_app, ih (by omega), cr_val T per sq (by omega) (by omega) L]
    by_cases c : x % m = i
    · rw [if_neg (by omega), if_pos c, if_pos (by omega)]; omega
    · by_cases c2 : x % m < i
      · rw [if_pos c2, if_neg c, if_pos (by omega)]; omega
      · rw [if_neg c2, if_neg c, if_neg (by omega)]; rfl
theorem Built.all {n m : Nat} {p q : Int} {a : Int → Int} (T : Two n p q m) (per : Ld.Per n a) (sq : Sq (q * m) (p * m) a) {rows : List (Int × Int × Int)} (B : Built p q (q * m) (p * m) a m rows) (x : Int) : Rg.rvs n rows x = a x := by
  rw [B.val T per sq (Nat.le_refl _), if_pos (Int.emod_lt_of_pos _ (by have := T.m0; omega))]
theorem cr_ok {n m : Nat} {p q : Int} {a : Int → Int} {h low : Int} (T : Two n p q m) (h0 : 0 ≤ h) (hm : h < m) (L : Low p (q * m) a h low) (nn : ∀ x, 0 ≤ a x) :
    ∀ r ∈ cr p q (q * m) (p * m) a h low, (r.1 = p ∨ r.1 = q) ∧ 0 ≤ r.2.1 ∧ r.2.1 < n ∧ 0 ≤ r.2.2 ∧ r.2.1 % m = h := by
  obtain ⟨k0, k0p, el, lo⟩ := L
  have p2 := T.p2
  have q2 := T.q2
  have m0 := T.m0
  have e := T.e
  intro r hr
  rcases List.mem_append.mp hr with z | z
  · obtain ⟨k, hk, rfl⟩ := List.mem_map.mp z
    have hk := List.mem_range.mp hk
    have b1 : (0 : Int) ≤ k * (q * m) := Int.mul_nonneg (by omega) (Int.mul_nonneg (by omega) (by omega))
    have b2 : (k : Int) * (q * m) ≤ (p - 1) * (q * m) := Int.mul_le_mul_of_nonneg_right (by omega) (Int.mul_nonneg (by omega) (by omega))
    have b3 : (m : Int) ≤ q * m := by have := Int.mul_le_mul_of_nonneg_right (show 1 ≤ q by omega) (show (0 : Int) ≤ m by omega); omega
    have b4 : (p - 1) * (q * m) + q * m = n := by rw [e]; grind
    have := lo k (by omega)
    refine ⟨.inr rfl, by show 0 ≤ h + k * (q * m); omega, by show h + k * (q * m) < n; omega, by show 0 ≤ a (h + k * (q * m)) - a low; omega, dvd_m (y := h) ⟨k * q, by show h + k * (q * m) - h = _; grind⟩ h0 hm⟩
  · obtain ⟨j, hj, rfl⟩ := List.mem_map.mp z
    have hj := List.mem_range.mp hj
    have t0 : 0 < p * (m : Int) := Int.mul_pos (by omega) (by omega)
    have l0 := Int.emod_nonneg low (show p * (m : Int) ≠ 0 by omega)
    have l1 := Int.emod_lt_of_pos low t0
    have lw := Int.emod_add_mul_ediv low (p * m)
    have b1 : (0 : Int) ≤ j * (p * m) := Int.mul_nonneg (by omega) (by omega)
    have b2 : (j : Int) * (p * m) ≤ (q - 1) * (p * m) := Int.mul_le_mul_of_nonneg_right (by omega) (by omega)
    have b4 : (q - 1) * (p * m) + p * m = n := by rw [e]; grind
    refine ⟨.inl rfl, by show 0 ≤ low % (p * m) + j * (p * m); omega, by show low % (p * m) + j * (p * m) < n; omega, nn _, dvd_m (y := h) ⟨k0 * q - p * (low / (p * m)) + j * p, ?_⟩ h0 hm⟩
    show low % (p * m) + j * (p * m) - h = _
    generalize low % (p * m) = lt at *
    generalize low / (p * (m : Int)) = w at *
    grind
theorem nodup_map_range {β : Type} (f : Nat → β) (inj : ∀ i j, f i = f j → i = j) (p : Nat) : ((List.range p).map f).Nodup := by
  refine List.Pairwise.map f (fun i j ne e => ne (inj i j e)) List.nodup_range
theorem cr_nodup {n m : Nat} {p q : Int} {a : Int → Int} {h low : Int} (T : Two n p q m) (ne : p ≠ q) : ((cr p q (q * m) (p * m) a h low).map fun t => (t.1, t.2.1)).Nodup := by
  have p2 := T.p2
  have q2 := T.q2
  have m0 := T.m0
  have s0 : 0 < q * (m : Int) := Int.mul_pos (by omega) (by omega)
  have t0 : 0 < p * (m : Int) := Int.mul_pos (by omega) (by omega)
  unfold cr
  rw [List.map_append, List.map_map, List.map_map]
  refine List.nodup_append.mpr ⟨nodup_map_range _ (fun i j e => ?_) _, nodup_map_range _ (fun i j e => ?_) _, fun x hx y hy e => ?_⟩
  · have e2 : h + (i : Int) * (q * m) = h + j * (q * m) := congrArg Prod.snd e
    have : (i : Int) = j := Int.eq_of_mul_eq_mul_right (show q * (m : Int) ≠ 0 by omega) (by omega)
    omega
  · have e2 : low % (p * m) + (i : Int) * (p * m) = low % (p * m) + j * (p * m) := congrArg Prod.snd e
    have : (i : Int) = j := Int.eq_of_mul_eq_mul_right (show p * (m : Int) ≠ 0 by omega) (by omega)
    omega
  · obtain ⟨k, _, rfl⟩ := List.mem_map.mp hx
    obtain ⟨j, _, rfl⟩ := List.mem_map.mp hy
    exact ne (congrArg Prod.fst e).symm
def RowOk (n : Nat) (pl : List Int) (r : Int × Int × Int) : Prop := r.1 ∈ pl ∧ 0 ≤ r.2.1 ∧ r.2.1 < n ∧ 0 ≤ r.2.2
theorem Built.ok {n m : Nat} {p q : Int} {a : Int → Int} (T : Two n p q m) (ne : p ≠ q) (nn : ∀ x, 0 ≤ a x) {i : Nat} {rows : List (Int × Int × Int)} (B : Built p q (q * m) (p * m) a i rows) (hi : i ≤ m) :
    (∀ r ∈ rows, RowOk n [p, q] r ∧ r.2.1 % m < i) ∧ (rows.map fun t => (t.1, t.2.1)).Nodup ∧ (rows.length : Int) = i * (p + q) := by
  induction B with
  | zero => exact ⟨fun r hr => (by simp at hr), by simp, by simp⟩
  | @succ i rows low B L ih =>
    obtain ⟨i1, i2, i3⟩ := ih (by omega)
    have c1 := cr_ok T (by omega) (by omega) L nn
    refine ⟨fun r hr => ?_, ?_, ?_⟩
    · rcases List.mem_append.mp hr with z | z
      · exact ⟨(i1 r z).1, by have := (i1 r z).2; omega⟩
      · obtain ⟨d1, d2, d3, d4, d5⟩ := c1 r z
        refine ⟨⟨?_, d2, d3, d4⟩, by omega⟩
        rcases d1 with d | d <;> rw [d] <;> simp
    · rw [List.map_append]
      refine List.nodup_append.mpr ⟨i2, cr_nodup T ne, fun x hx y hy e => ?_⟩
      obtain ⟨r, hr, rfl⟩ := List.mem_map.mp hx
      obtain ⟨r', hr', rfl⟩ := List.mem_map.mp hy
      have e2 : r.2.1 = r'.2.1 := congrArg Prod.snd e
      have w1 := (i1 r hr).2
      have w2 := (c1 r' hr').2.2.2.2
      rw [e2] at w1
      omega
    · have p2 := T.p2
      have q2 := T.q2
      unfold cr
      simp only [List.length_append, List.length_map, List.length_range]
      have : ((rows.length + (p.toNat + q.toNat) : Nat) : Int) = i * (p + q) + (p + q) := by omega
      rw [this]
      grind
def Ev (n : Nat) : List Int → (Int → Int) → Prop
  | [], a => ∀ x, a x = 0
  | [p], a => ∀ x, a (x + (n : Int) / p) = a x
  | p :: q :: _, a => Sq ((n : Int) / p) ((n : Int) / q) a
theorem rv_per {n : Nat} {r : Int × Int × Int} (x : Int) : Rg.rv n r (x + (n : Int) / r.1) = Rg.rv n r x := by
  unfold Rg.rv
  rw [show x + (n : Int) / r.1 - r.2.1 = x - r.2.1 + (n : Int) / r.1 by omega, Int.add_emod_right]
theorem Ev.add {n : Nat} {pl : List Int} {a b : Int → Int} (ha : Ev n pl a) (hb : Ev n pl b) : Ev n pl fun x => a x + b x := by
  match pl, ha, hb with
  | [], ha, hb => exact fun x => by show a x + b x = 0; rw [ha x, hb x]; rfl
  | [p], ha, hb => exact fun x => by show a _ + b _ = a x + b x; rw [ha x, hb x]
  | p :: q :: _, ha, hb => exact fun x => by have := ha x; have := hb x; show a x + b x - (a _ + b _) - (a _ + b _) + (a _ + b _) = 0; omega
theorem Ev.zero {n : Nat} {pl : List Int} : Ev n pl fun _ => 0 := by
  match pl with
  | [] => exact fun x => rfl
  | [p] => exact fun x => rfl
  | p :: q :: _ => exact fun x => rfl
theorem Ev.congr {n : Nat} {pl : List Int} {a b : Int → Int} (h : ∀ x, a x = b x) (ha : Ev n pl a) : Ev n pl b := by
  have : a = b := funext h
  rw [← this]; exact ha
theorem Ev.rv {n : Nat} {pl : List Int} (l2 : pl.length ≤ 2) {r : Int × Int × Int} (hr : r.1 ∈ pl) : Ev n pl fun x => Rg.rv n r x := by
  match pl, l2, hr with
  | [p], _, hr => exact fun x => by have e := List.mem_singleton.mp hr; rw [← e]; exact rv_per x
  | [p, q], _, hr =>
    intro x
    show Rg.rv n r x - Rg.rv n r (x + (n : Int) / p) - Rg.rv n r (x + (n : Int) / q) + Rg.rv n r (x + (n : Int) / p + (n : Int) / q) = 0
    rcases List.mem_cons.mp hr with e | e
    · rw [← e, rv_per, show x + (n : Int) / r.1 + (n : Int) / q = x + (n : Int) / q + (n : Int) / r.1 by omega, rv_per]; omega
    · rw [← List.mem_singleton.mp e, rv_per, rv_per]; omega
theorem Ev.rvs {n : Nat} {pl : List Int} (l2 : pl.length ≤ 2) : ∀ {rows : List (Int × Int × Int)}, (∀ r ∈ rows, r.1 ∈ pl) → Ev n pl fun x => Rg.rvs n rows x
  | [], _ => Ev.zero.congr fun x => rfl
  | r :: rows, h => by
    refine Ev.congr (fun x => ?_) ((Ev.rv l2 (h r (by simp))).add (Ev.rvs (rows := rows) l2 fun r' hr => h r' (List.mem_cons_of_mem _ hr)))
    show Rg.rv n r x + Rg.rvs n rows x = Rg.rvs n (r :: rows) x
    unfold Rg.rvs; rw [List.map_cons, List.sum_cons]
def Likely (n : Nat) (a : Int → Int) : List Int → List (Int × Int × Int) → Prop
  | [], rows => rows = []
  | [p], rows => rows = (List.range ((n : Int) / p).toNat).map fun (h : Nat) => (p, (h : Int), a h)
  | p :: q :: _, rows => ∃ m : Nat, Two n p q m ∧ Built p q (q * m) (p * m) a m rows
theorem one_val {n : Nat} {p : Int} {a : Int → Int} (hn : 0 < n) (p2 : 2 ≤ p) (d : p ∣ n) (ev : ∀ x, a (x + (n : Int) / p) = a x) (x : Int) : Rg.rvs n ((List.range ((n : Int) / p).toNat).map fun (h : Nat) => (p, (h : Int), a h)) x = a x := by
  obtain ⟨st, est, st0, enp, _⟩ := Rg.step_of hn p2 d
  rw [est] at ev ⊢
  rw [Int.toNat_natCast]
  have x0 := Int.emod_nonneg x (show (st : Int) ≠ 0 by omega)
  have x1 := Int.emod_lt_of_pos x (show (0 : Int) < st by omega)
  unfold Rg.rvs
  rw [List.map_map]
  have e1 : ∀ k : Nat, ((fun t => Rg.rv (↑n) t x) ∘ fun (h : Nat) => (p, (h : Int), a h)) k = if (x - k) % st = 0 then a k else 0 := fun k => by
    show Rg.rv n (p, (k : Int), a k) x = _
    unfold Rg.rv; rw [est]
  have ex := Int.emod_add_mul_ediv x st
  rw [sum_one _ (k1 := (x % st).toNat) (by omega) (fun k hk ne => by
    rw [e1, if_neg]
    intro z
    have := dvd_m (Int.dvd_of_emod_eq_zero z) (by omega) (by omega)
    omega), e1, Int.toNat_of_nonneg x0, if_pos]
  · have := per_mul ev (x % st) (x / st)
    rw [← this]
    congr 1
    grind
  · rw [show x - x % st = st * (x / st) by omega]; exact Int.mul_emod_right _ _
theorem Likely.val {n : Nat} {pl : List Int} {a : Int → Int} (hn : 0 < n) (l2 : pl.length ≤ 2) (hp : ∀ p ∈ pl, 2 ≤ p ∧ p ∣ n) (per : Ld.Per n a) {rows : List (Int × Int × Int)} (L : Likely n a pl rows) (ev : Ev n pl a) (x : Int) : Rg.rvs n rows x = a x := by
  match pl, l2, hp, L, ev with
  | [], _, _, L, ev => rw [ev x, show rows = [] from L]; rfl
  | [p], _, hp, L, ev =>
    rw [show rows = _ from L]
    exact one_val hn (hp p (by simp)).1 (hp p (by simp)).2 ev x
  | [p, q], _, _, L, ev =>
    obtain ⟨m, T, B⟩ := L
    have sq : Sq ((n : Int) / p) ((n : Int) / q) a := ev
    rw [T.s, T.t] at sq
    exact B.all T per sq x
theorem Likely.ok {n : Nat} {pl : List Int} {a : Int → Int} (hn : 0 < n) (l2 : pl.length ≤ 2) (hp : ∀ p ∈ pl, 2 ≤ p ∧ p ∣ n) (nd : pl.Nodup) (nn : ∀ x, 0 ≤ a x) {rows : List (Int × Int × Int)} (L : Likely n a pl rows) :
    (∀ r ∈ rows, RowOk n pl r) ∧ (rows.map fun t => (t.1, t.2.1)).Nodup ∧ rows.length ≤ n * n := by
  match pl, l2, hp, nd, L with
  | [], _, _, _, L => rw [show rows = [] from L]; exact ⟨fun r hr => (by simp at hr), by simp, by simp⟩
  | [p], _, hp, _, L =>
    rw [show rows = _ from L]
    have p2 := (hp p (by simp)).1
    obtain ⟨st, est, st0, enp, _⟩ := Rg.step_of hn p2 (hp p (by simp)).2
    rw [est, Int.toNat_natCast]
    have stn : st ≤ n := by rw [enp]; exact Nat.le_mul_of_pos_left _ (by omega)
    refine ⟨fun r hr => ?_, ?_, ?_⟩
    · obtain ⟨h, hh, rfl⟩ := List.mem_map.mp hr
      have := List.mem_range.mp hh
      exact ⟨by simp, by show (0 : Int) ≤ h; omega, by show (h : Int) < n; omega, nn _⟩
    · rw [List.map_map]
      exact nodup_map_range _ (fun i j e => by have : (i : Int) = j := congrArg Prod.snd e; omega) _
    · rw [List.length_map, List.length_range]
      exact Nat.le_trans stn (Nat.le_mul_of_pos_left _ hn)
  | [p, q], _, hp, nd, L =>
    obtain ⟨m, T, B⟩ := L
    have ne : p ≠ q := fun e => by rw [e] at nd; simp at nd
    obtain ⟨b1, b2, b3⟩ := B.ok T ne nn (Nat.le_refl _)
    refine ⟨fun r hr => (b1 r hr).1, b2, ?_⟩
    have p2 := T.p2
    have q2 := T.q2
    have le : (m : Int) * (p + q) ≤ n * n := by
      have h1 : p + q ≤ p * q := by
        have := Int.mul_nonneg (show 0 ≤ p - 2 by omega) (show 0 ≤ q - 2 by omega)
        have h3 : (p - 2) * (q - 2) = p * q - 2 * p - 2 * q + 4 := by grind
        rcases Int.lt_or_le p 3 with g | g
        · have : p = 2 := by omega
          subst this
          omega
        · have h4 := Int.mul_le_mul_of_nonneg_right g (show 0 ≤ q by omega)
          rcases Int.lt_or_le q 3 with g2 | g2
          · have : q = 2 := by omega
            subst this
            omega
          · omega
      have h2 := Int.mul_le_mul_of_nonneg_left h1 (show (0 : Int) ≤ m by omega)
      have h3 : (m : Int) * (p * q) = n := by rw [T.e]; grind
      have h4 := Int.mul_le_mul_of_nonneg_left (show (1 : Int) ≤ n by omega) (show (0 : Int) ≤ n by omega)
      omega
    have : ((rows.length : Nat) : Int) ≤ ((n * n : Nat) : Int) := by rw [b3, Int.natCast_mul]; exact le
    omega
theorem Two.few {n m : Nat} {p q : Int} (T : Two n p q m) (ne : p ≠ q) : (m : Int) * (p + q) ≤ n := by
  have p2 := T.p2
  have q2 := T.q2
  have h1 : p + q ≤ p * q := by
    rcases Int.lt_or_le p 3 with g | g
    · have : p = 2 := by omega
      subst this
      omega
    · have h4 := Int.mul_le_mul_of_nonneg_right g (show 0 ≤ q by omega)
      have h5 := Int.mul_le_mul_of_nonneg_left q2 (show 0 ≤ p by omega)
      omega
  have h2 := Int.mul_le_mul_of_nonneg_left h1 (show (0 : Int) ≤ m by omega)
  have h3 : (m : Int) * (p * q) = n := by rw [T.e]; grind
  omega
theorem Built.len {p q s t : Int} {a : Int → Int} (p2 : 0 ≤ p) (q2 : 0 ≤ q) {i : Nat} {rows : List (Int × Int × Int)} (B : Built p q s t a i rows) : (rows.length : Int) = i * (p + q) := by
  induction B with
  | zero => simp
  | @succ i rows low B L ih =>
    unfold cr
    simp only [List.length_append, List.length_map, List.length_range]
    have : ((rows.length + (p.toNat + q.toNat) : Nat) : Int) = i * (p + q) + (p + q) := by omega
    rw [this]
    grind
theorem parts_ne {n : Nat} {ps : List (Int × Int)} (h : Parts n ps) (n2 : n ≠ 1) : ps.map Prod.fst ≠ [] := fun e => by
  have e2 : ps = [] := by simpa using e
  have := h.prd
  rw [e2] at this
  have : (1 : Int) = n := this
  omega
end Sk
set_option linter.all false
namespace Rt
open Pt (Parts)
end Rt
set_option linter.all false
namespace Hd
open Pt (Parts Prm)
theorem rvs_one (n : Int) (t : Int × Int × Int) (x : Int) : Rg.rvs n [t] x = Rg.rv n t x := by unfold Rg.rvs; simp
theorem rvs_cons (n : Int) (t : Int × Int × Int) (l : List (Int × Int × Int)) (x : Int) : Rg.rvs n (t :: l) x = Rg.rv n t x + Rg.rvs n l x := by unfold Rg.rvs; rw [List.map_cons, List.sum_cons]
theorem rvs_rev (n : Int) (x : Int) : ∀ l : List (Int × Int × Int), Rg.rvs n l.reverse x = Rg.rvs n l x
  | [] => rfl
  | t :: l => by rw [List.reverse_cons, Sk.rvs_app, rvs_rev n x l, rvs_one, rvs_cons]; omega
theorem rv_around (n p hole j many x : Int) : Rg.rv n (p, hole + n / p * j, many) x = Rg.rv n (p, hole, many) x := by
  unfold Rg.rv
  show (if (x - (hole + n / p * j)) % (n / p) = 0 then many else 0) = if (x - hole) % (n / p) = 0 then many else 0
  rw [show x - (hole + n / p * j) = x - hole + n / p * (-j) by rw [Int.mul_neg]; omega, Int.add_mul_emod_self_left]
theorem rv_less (n p hole many x : Int) : Rg.rv n (p, hole, many - 1) x + Rg.rv n (p, hole, 1) x = Rg.rv n (p, hole, many) x := by
  unfold Rg.rv
  dsimp only
  split <;> omega
theorem rv_back {n p : Int} (p2 : 2 ≤ p) (d : p ∣ n) (hole c x : Int) : Rg.rv n (p, hole - n, c) x = Rg.rv n (p, hole, c) x := by
  have e : n = n / p * p := (Int.ediv_mul_cancel d).symm
  have := rv_around n p hole (-p) c x
  rwa [show hole + n / p * -p = hole - n by rw [Int.mul_neg, Int.ediv_mul_cancel d]; omega] at this
theorem rv_self (n p hole c : Int) : Rg.rv n (p, hole, c) hole = c := by
  unfold Rg.rv
  show (if (hole - hole) % (n / p) = 0 then c else 0) = c
  rw [Int.sub_self, Int.zero_emod, if_pos rfl]
theorem split_at {α : Type} {l : List α} {k : Nat} {x : α} (h : l[k]? = some x) : l = l.take k ++ x :: l.drop (k + 1) := by
  obtain ⟨hk, e⟩ := List.getElem?_eq_some_iff.mp h
  rw [← e, ← List.drop_eq_getElem_cons hk, List.take_append_drop]
theorem rvs_at {n : Int} {l : List (Int × Int × Int)} {k : Nat} {t : Int × Int × Int} (h : l[k]? = some t) (x : Int) : Rg.rvs n l x = Rg.rvs n (l.take k) x + Rg.rv n t x + Rg.rvs n (l.drop (k + 1)) x := by
  conv => lhs; rw [split_at h]
  rw [Sk.rvs_app, rvs_cons]; omega
theorem odd_no {n : Nat} {ps : List (Int × Int)} (hp : Parts n ps) (n2 : n ≤ 419) {p : Int} (h : p = 0 ∨ p = 1 ∨ p = 4 ∨ p = 6 ∨ p = 9 ∨ p = -2 ∨ p = -3 ∨ p = 421) : ¬ p ∈ ps.map Prod.fst := fun hm => by
  obtain ⟨x, hx, ex⟩ := List.mem_map.mp hm
  have pr : Prm p := by rw [← ex]; exact (hp.row x hx).pr
  have le : p ≤ n := by
    have a := Pt.row_le (hp.row _ hx)
    have b := Pt.le_Prd ps hp.row _ hx
    rw [hp.prd] at b
    omega
  have p2 := pr.1
  rcases h with h | h | h | h | h | h | h | h
  · omega
  · omega
  · exact pr.2 2 (by omega) (by omega) (by rw [h]; decide)
  · exact pr.2 2 (by omega) (by omega) (by rw [h]; decide)
  · exact pr.2 3 (by omega) (by omega) (by rw [h]; decide)
  · omega
  · omega
  · omega
def RZ (n : Nat) (ps : List (Int × Int)) (W : Int → Int) : Prop := ∀ p st : Nat, ((p : Nat) : Int) ∈ ps.map Prod.fst → 0 < st → n = p * st → ∀ s : Int, 0 ≤ s → s < st → Ld.S p (fun t => W (s + t * st)) = 0
theorem RZ.zero {n : Nat} {ps : List (Int × Int)} : RZ n ps fun _ => 0 := fun p st _ _ _ s _ _ => Ld.S_zero p
theorem RZ.add {n : Nat} {ps : List (Int × Int)} {W U : Int → Int} (h : RZ n ps W) (g : RZ n ps U) : RZ n ps fun x => W x + U x := fun p st a b c s s0 s1 => by
  rw [Ld.S_add (fun t => W (s + t * st)) (fun t => U (s + t * st)), h p st a b c s s0 s1, g p st a b c s s0 s1]; rfl
theorem RZ.mul {n : Nat} {ps : List (Int × Int)} {W : Int → Int} (h : RZ n ps W) (k : Int) : RZ n ps fun x => k * W x := fun p st a b c s s0 s1 => by
  rw [Ld.S_mul k (fun t => W (s + t * st)), h p st a b c s s0 s1, Int.mul_zero]
theorem RZ.V {n : Nat} {ps : List (Int × Int)} {l : List ((Int × Int) × Int)} (h : Rt.Ld' n ps l) {j : Int} (hj : Rt.Kp l j) : RZ n ps (Rt.V l j) := fun p st a b c s s0 s1 => h.ring0 hj a b c s0 s1
theorem RZ.congr {n : Nat} {ps : List (Int × Int)} {W U : Int → Int} (h : RZ n ps W) (e : ∀ x : Int, 0 ≤ x → x < n → U x = W x) : RZ n ps U := fun p st a b c s s0 s1 => by
  rw [← h p st a b c s s0 s1]
  refine Ld.S_congr fun t ht => e _ ?_ ?_
  · have := Int.mul_nonneg (show (0 : Int) ≤ t by omega) (show (0 : Int) ≤ st by omega); omega
  · have a1 := Int.mul_le_mul_of_nonneg_right (show (t : Int) ≤ p - 1 by omega) (show 0 ≤ (st : Int) by omega)
    have a2 : (n : Int) = p * st := by rw [c, Int.natCast_mul]
    rw [Int.sub_mul] at a1
    omega
theorem RZ.rv {n : Nat} {ps : List (Int × Int)} {W : Int → Int} (h : RZ n ps W) (hn : 1 ≤ n) (hp : Parts n ps) {t : Int × Int × Int} (ht : t.1 ∈ ps.map Prod.fst) : Ld.S n (fun k => Rg.rv n t k * W k) = 0 := by
  obtain ⟨p, hole, c⟩ := t
  dsimp only at ht
  obtain ⟨x, hx, ex⟩ := List.mem_map.mp ht
  have p2 : 2 ≤ p := by rw [← ex]; exact (hp.row x hx).pr.1
  have pd : p ∣ (n : Int) := by rw [← ex]; exact ((Pt.part_iff hp x).mp hx).2.1
  obtain ⟨st, est, st0, enp, _⟩ := Rg.step_of hn p2 pd
  have s0 := Int.emod_nonneg hole (show (st : Int) ≠ 0 by omega)
  have s1 := Int.emod_lt_of_pos hole (show (0 : Int) < st by omega)
  have e : Ld.S n (fun k => Rg.rv n (p, hole, c) k * W k) = Ld.S (p.toNat * st) (fun k => if (k - hole % st) % st = 0 then c * W k else 0) := by
    rw [← enp]
    refine Ld.S_congr fun k _ => ?_
    unfold Rg.rv
    show (if ((k : Int) - hole) % ((n : Int) / p) = 0 then c else 0) * W k = _
    rw [est]
    have em : ((k : Int) - hole % st) % st = ((k : Int) - hole) % st := Int.sub_emod_emod ..
    rw [em]
    split
    · rfl
    · exact Int.zero_mul _
  rw [e, Rt.S_ring st0 s0 s1 (fun k => c * W k), Ld.S_mul c (fun t => W (hole % st + t * st)), h p.toNat st (by rw [Int.toNat_of_nonneg (by omega)]; exact ht) st0 enp _ s0 s1, Int.mul_zero]
theorem RZ.rvs {n : Nat} {ps : List (Int × Int)} {W : Int → Int} (h : RZ n ps W) (hn : 1 ≤ n) (hp : Parts n ps) : ∀ {rows : List (Int × Int × Int)}, (∀ t ∈ rows, t.1 ∈ ps.map Prod.fst) → Ld.S n (fun k => Rg.rvs n rows k * W k) = 0
  | [], _ => by
    have : (fun k : Int => Rg.rvs n [] k * W k) = fun _ => 0 := funext fun k => by show 0 * W k = 0; exact Int.zero_mul _
    rw [this]; exact Ld.S_zero n
  | t :: r, k => by
    have : (fun k : Int => Rg.rvs n (t :: r) k * W k) = fun k => Rg.rv n t k * W k + Rg.rvs n r k * W k := funext fun k => by rw [rvs_cons, Int.add_mul]
    rw [this, Ld.S_add, h.rv hn hp (k t (by simp)), RZ.rvs h hn hp fun t' ht => k t' (List.mem_cons_of_mem _ ht)]; rfl
theorem RZ.bent {n : Nat} {ps : List (Int × Int)} {W U : Int → Int} (h : RZ n ps W) (hp : Parts n ps) (n2 : 2 ≤ n) {a : Int} (a0 : 0 ≤ a) (a1 : a < n) (e : ∀ x : Int, 0 ≤ x → x < n → U x = W x + if x = a then 1 else 0) : ¬ RZ n ps U := fun g => by
  have ne := Sk.parts_ne hp (by omega)
  obtain ⟨p, hm⟩ := List.exists_mem_of_ne_nil _ ne
  obtain ⟨x, hx, ex⟩ := List.mem_map.mp hm
  have p2 : 2 ≤ p := by rw [← ex]; exact (hp.row x hx).pr.1
  have pd : p ∣ (n : Int) := by rw [← ex]; exact ((Pt.part_iff hp x).mp hx).2.1
  obtain ⟨st, est, st0, enp, _⟩ := Rg.step_of (by omega) p2 pd
  have s0 := Int.emod_nonneg a (show (st : Int) ≠ 0 by omega)
  have s1 := Int.emod_lt_of_pos a (show (0 : Int) < st by omega)
  have am := Int.emod_add_mul_ediv a st
  have d0 : 0 ≤ a / (st : Int) := Int.ediv_nonneg a0 (by omega)
  have en : (n : Int) = p.toNat * st := by rw [enp, Int.natCast_mul]
  have d1 : a / (st : Int) < p.toNat := by
    refine Int.ediv_lt_of_lt_mul (by omega) ?_
    rw [← en]; exact a1
  have mem : ((p.toNat : Nat) : Int) ∈ ps.map Prod.fst := by rw [Int.toNat_of_nonneg (by omega)]; exact hm
  have g0 := g p.toNat st mem st0 enp _ s0 s1
  have h0 := h p.toNat st mem st0 enp _ s0 s1
  have e2 : Ld.S p.toNat (fun t => U (a % st + t * st)) = Ld.S p.toNat (fun t => W (a % st + t * st)) + Ld.S p.toNat (fun t => if t = a / st then (1 : Int) else 0) := by
    rw [← Ld.S_add]
    refine Ld.S_congr fun t ht => ?_
    have b1 := Int.mul_le_mul_of_nonneg_right (show (t : Int) ≤ p.toNat - 1 by omega) (show 0 ≤ (st : Int) by omega)
    rw [Int.sub_mul] at b1
    have b0 := Int.mul_nonneg (show (0 : Int) ≤ t by omega) (show (0 : Int) ≤ st by omega)
    rw [e _ (by omega) (by omega)]
    congr 1
    by_cases c : (t : Int) = a / st
    · rw [if_pos c, if_pos]; rw [c, Int.mul_comm]; exact am
    · rw [if_neg c, if_neg]
      intro z
      refine c ?_
      have : (t : Int) * st = a / st * st := by rw [Int.mul_comm (a / st)]; omega
      exact Int.eq_of_mul_eq_mul_right (show (st : Int) ≠ 0 by omega) this
  rw [e2, h0, Ld.S_one (G := fun _ => 1) d0, if_pos d1] at g0
  omega
theorem tab_at {n : Nat} {p q u : Int} (h : Rt.Pc n p q u) (k : Int) : (k * u % q) * ((n : Int) / q) % q = k % q := by
  obtain ⟨cf, e, e1, e2⟩ := h.cof
  have d : q ∣ cf * u - 1 := by have := Int.dvd_of_emod_eq_zero h.le; rwa [e1] at this
  rw [e1, Int.mul_emod, Int.emod_emod_of_dvd _ (Int.dvd_refl q), ← Int.mul_emod]
  refine Int.emod_eq_emod_iff_emod_sub_eq_zero.mpr (Int.emod_eq_zero_of_dvd ?_)
  have : k * u * cf - k = k * (cf * u - 1) := by rw [Int.mul_sub, Int.mul_one, Int.mul_assoc, Int.mul_comm u cf]
  rw [this]
  exact Int.dvd_mul_of_dvd_right d
theorem tab_inj {n : Nat} {p q u : Int} (h : Rt.Pc n p q u) {c c' : Int} (c0 : 0 ≤ c) (c1 : c < q) (d0 : 0 ≤ c') (d1 : c' < q) (e : c * ((n : Int) / q) % q = c' * ((n : Int) / q) % q) : c = c' := by
  obtain ⟨cf, ee, e1, e2⟩ := h.cof
  have d : q ∣ cf * u - 1 := by have := Int.dvd_of_emod_eq_zero h.le; rwa [e1] at this
  rw [e1] at e
  have z : q ∣ c * cf - c' * cf := Int.dvd_of_emod_eq_zero (Int.emod_eq_emod_iff_emod_sub_eq_zero.mp e)
  have z2 : q ∣ c - c' := by
    have a1 : q ∣ (c * cf - c' * cf) * u := Int.dvd_mul_of_dvd_left z
    have a2 : q ∣ (c - c') * (cf * u - 1) := Int.dvd_mul_of_dvd_right d
    have : c - c' = (c * cf - c' * cf) * u - (c - c') * (cf * u - 1) := by
      rw [Int.sub_mul, Int.sub_mul, Int.mul_sub, Int.mul_sub, Int.mul_assoc, Int.mul_assoc]; omega
    rw [this]; exact Int.dvd_sub a1 a2
  obtain ⟨m, hm⟩ := z2
  have q2 := h.q2
  have m0 : m = 0 := by
    rcases Int.lt_trichotomy m 0 with g | g | g
    · have := Int.mul_le_mul_of_nonneg_left (show m ≤ -1 by omega) (show 0 ≤ q by omega); omega
    · exact g
    · have := Int.mul_le_mul_of_nonneg_left (show 1 ≤ m by omega) (show 0 ≤ q by omega); omega
  rw [m0, Int.mul_zero] at hm
  omega
end Hd
set_option Elab.async false
set_option linter.all false
set_option maxRecDepth 100000
set_option maxHeartbeats 5000000
namespace K30
open PySem L2
def top (i : Nat) : Stmt := PySem.Challenge.pw_evenhub_k30_papers_held.main.body.getD i (.Pass ⟨0, 0, 0, 0⟩)
abbrev s_check_fit : Stmt := top 5
theorem sc_check_fit : FnScope ["one", "other"] ["one", "other"] (defScope s_check_fit) := ⟨rfl, rfl, rfl, by decide +kernel, rfl, by decide +kernel, by decide +kernel⟩
abbrev s_parts : Stmt := top 7
theorem sc_parts : FnScope ["n", "found", "left", "p", "q"] ["n"] (defScope s_parts) := ⟨rfl, rfl, rfl, by decide +kernel, rfl, by decide +kernel, by decide +kernel⟩
abbrev s_prime_power : Stmt := top 8
theorem sc_prime_power : FnScope ["n", "p", "q"] ["n", "p"] (defScope s_prime_power) := ⟨rfl, rfl, rfl, by decide +kernel, rfl, by decide +kernel, by decide +kernel⟩
abbrev s_laid : Stmt := top 10
theorem sc_laid : FnScope ["n", "rows", "primes", "outcome", "p", "hole", "many"] ["n", "rows"] (defScope s_laid) := ⟨rfl, rfl, rfl, by decide +kernel, rfl, by decide +kernel, by decide +kernel⟩
abbrev s_lay_ring : Stmt := top 11
theorem sc_lay_ring : FnScope ["load", "p", "hole", "many", "place"] ["load", "p", "hole", "many"] (defScope s_lay_ring) := ⟨rfl, rfl, rfl, by decide +kernel, rfl, by decide +kernel, by decide +kernel⟩
abbrev s_ring_holes : Stmt := top 12
theorem sc_ring_holes : FnScope ["n", "p", "hole", "step"] ["n", "p", "hole"] (defScope s_ring_holes) := ⟨rfl, rfl, rfl, by decide +kernel, rfl, by decide +kernel, by decide +kernel⟩
abbrev s_weighed : Stmt := top 14
theorem sc_weighed : FnScope ["load", "weights"] ["load", "weights"] (defScope s_weighed) := ⟨rfl, rfl, rfl, by decide +kernel, rfl, by decide +kernel, by decide +kernel⟩
abbrev s_holds : Stmt := top 15
theorem sc_holds : FnScope ["load", "paper"] ["load", "paper"] (defScope s_holds) := ⟨rfl, rfl, rfl, by decide +kernel, rfl, by decide +kernel, by decide +kernel⟩
abbrev s_rows_hold : Stmt := top 16
theorem sc_rows_hold : FnScope ["load", "rows"] ["load", "rows"] (defScope s_rows_hold) := ⟨rfl, rfl, rfl, by decide +kernel, rfl, by decide +kernel, by decide +kernel⟩
abbrev s_weights_hold : Stmt := top 17
theorem sc_weights_hold : FnScope ["load", "weights"] ["load", "weights"] (defScope s_weights_hold) := ⟨rfl, rfl, rfl, by decide +kernel, rfl, by decide +kernel, by decide +kernel⟩
abbrev s_rings_weigh_nought : Stmt := top 18
theorem sc_rings_weigh_nought : FnScope ["weights", "p", "step"] ["weights", "p"] (defScope s_rings_weigh_nought) := ⟨rfl, rfl, rfl, by decide +kernel, rfl, by decide +kernel, by decide +kernel⟩
abbrev s_law_cell : Stmt := top 20
theorem sc_law_cell : FnScope ["script", "k"] ["script", "k"] (defScope s_law_cell) := ⟨rfl, rfl, rfl, by decide +kernel, rfl, by decide +kernel, by decide +kernel⟩
abbrev s_law_number : Stmt := top 21
theorem sc_law_number : FnScope ["cell"] ["cell"] (defScope s_law_number) := ⟨rfl, rfl, rfl, by decide +kernel, rfl, by decide +kernel, by decide +kernel⟩
abbrev s_law_wheel : Stmt := top 22
theorem sc_law_wheel : FnScope ["cell"] ["cell"] (defScope s_law_wheel) := ⟨rfl, rfl, rfl, by decide +kernel, rfl, by decide +kernel, by decide +kernel⟩
abbrev s_law_load : Stmt := top 23
theorem sc_law_load : FnScope ["script", "n", "kind", "kinds", "load", "k", "hole"] ["script", "n", "kind", "kinds"] (defScope s_law_load) := ⟨rfl, rfl, rfl, by decide +kernel, rfl, by decide +kernel, by decide +kernel⟩
abbrev s_law_primes : Stmt := top 24
theorem sc_law_primes : FnScope ["n", "found", "p"] ["n"] (defScope s_law_primes) := ⟨rfl, rfl, rfl, by decide +kernel, rfl, by decide +kernel, by decide +kernel⟩
abbrev s_law_rings : Stmt := top 25
theorem sc_law_rings : FnScope ["script", "n", "kind", "kinds", "primes", "rows", "k", "cell", "p"] ["script", "n", "kind", "kinds"] (defScope s_law_rings) := ⟨rfl, rfl, rfl, by decide +kernel, rfl, by decide +kernel, by decide +kernel⟩
abbrev s_law_laid : Stmt := top 26
theorem sc_law_laid : FnScope ["n", "rows", "load", "p", "hole", "many", "k", "at"] ["n", "rows"] (defScope s_law_laid) := ⟨rfl, rfl, rfl, by decide +kernel, rfl, by decide +kernel, by decide +kernel⟩
abbrev s_law_kept : Stmt := top 27
theorem sc_law_kept : FnScope ["n", "holes", "p", "q", "last", "c"] ["n"] (defScope s_law_kept) := ⟨rfl, rfl, rfl, by decide +kernel, rfl, by decide +kernel, by decide +kernel⟩
abbrev s_law_tables : Stmt := top 28
theorem sc_law_tables : FnScope ["n", "found", "p", "q", "share", "c"] ["n"] (defScope s_law_tables) := ⟨rfl, rfl, rfl, by decide +kernel, rfl, by decide +kernel, by decide +kernel⟩
abbrev s_law_lean : Stmt := top 29
theorem sc_law_lean : FnScope ["tables", "hole", "other", "done", "p", "q", "share", "low", "mine", "yours"] ["tables", "hole", "other"] (defScope s_law_lean) := ⟨rfl, rfl, rfl, by decide +kernel, rfl, by decide +kernel, by decide +kernel⟩
abbrev s_law_rings_weigh : Stmt := top 30
theorem sc_law_rings_weigh : FnScope ["n", "weights", "p", "hole"] ["n", "weights"] (defScope s_law_rings_weigh) := ⟨rfl, rfl, rfl, by decide +kernel, rfl, by decide +kernel, by decide +kernel⟩
abbrev s_law_is : Stmt := top 31
theorem sc_law_is : FnScope ["load", "told", "due", "held", "beside", "found"] ["load", "told", "due"] (defScope s_law_is) := ⟨rfl, rfl, rfl, by decide +kernel, rfl, by decide +kernel, by decide +kernel⟩
abbrev s_law_rows_good : Stmt := top 32
theorem sc_law_rows_good : FnScope ["script", "n", "rows", "load", "cell", "at", "odd", "amid", "spoilt", "bent", "spot", "p", "hole", "many", "around", "about", "parted"] ["script", "n", "rows", "load"] (defScope s_law_rows_good) := ⟨rfl, rfl, rfl, by decide +kernel, rfl, by decide +kernel, by decide +kernel⟩
abbrev s_law_weights : Stmt := top 33
theorem sc_law_weights : FnScope ["script", "n", "some", "tables", "weights", "cell", "hole", "many", "k"] ["script", "n"] (defScope s_law_weights) := ⟨rfl, rfl, rfl, by decide +kernel, rfl, by decide +kernel, by decide +kernel⟩
abbrev s_law_twisted_good : Stmt := top 34
theorem sc_law_twisted_good : FnScope ["script", "other", "weights", "at", "n", "primes", "p", "twisted", "due"] ["script", "other", "weights", "at"] (defScope s_law_twisted_good) := ⟨rfl, rfl, rfl, by decide +kernel, rfl, by decide +kernel, by decide +kernel⟩
abbrev s_law : Stmt := top 35
theorem sc_law : FnScope ["script", "n", "rows", "load", "weights", "other", "due", "bent", "at"] ["script"] (defScope s_law) := ⟨rfl, rfl, rfl, by decide +kernel, rfl, by decide +kernel, by decide +kernel⟩
structure Txt (K : PySem.W.Frag) (mg : Str → Option Value) (C_NoRing : Addr) : Prop where
  c_NoRing : mg "NoRing" = some (.ref C_NoRing)
  x_NoRing : PySem.W.excIn K C_NoRing [.type "ValueError", .type "Exception", .type "BaseException", .type "object"] "ValueError.__new__" = true
  m_NoRing : PySem.W.exmOne K (.ref C_NoRing) (.ref C_NoRing) = some true
  d_check_fit : Dn K mg "check_fit" s_check_fit ["one", "other"]
  d_parts : Dn K mg "parts" s_parts ["n"]
  d_prime_power : Dn K mg "prime_power" s_prime_power ["n", "p"]
  d_laid : Dn K mg "laid" s_laid ["n", "rows"]
  d_lay_ring : Dn K mg "lay_ring" s_lay_ring ["load", "p", "hole", "many"]
  d_ring_holes : Dn K mg "ring_holes" s_ring_holes ["n", "p", "hole"]
  d_weighed : Dn K mg "weighed" s_weighed ["load", "weights"]
  d_holds : Dn K mg "holds" s_holds ["load", "paper"]
  d_rows_hold : Dn K mg "rows_hold" s_rows_hold ["load", "rows"]
  d_weights_hold : Dn K mg "weights_hold" s_weights_hold ["load", "weights"]
  d_rings_weigh_nought : Dn K mg "rings_weigh_nought" s_rings_weigh_nought ["weights", "p"]
  d_law_cell : Dn K mg "_law_cell" s_law_cell ["script", "k"]
  d_law_number : Dn K mg "_law_number" s_law_number ["cell"]
  d_law_wheel : Dn K mg "_law_wheel" s_law_wheel ["cell"]
  d_law_load : Dn K mg "_law_load" s_law_load ["script", "n", "kind", "kinds"]
  d_law_primes : Dn K mg "_law_primes" s_law_primes ["n"]
  d_law_rings : Dn K mg "_law_rings" s_law_rings ["script", "n", "kind", "kinds"]
  d_law_laid : Dn K mg "_law_laid" s_law_laid ["n", "rows"]
  d_law_kept : Dn K mg "_law_kept" s_law_kept ["n"]
  d_law_tables : Dn K mg "_law_tables" s_law_tables ["n"]
  d_law_lean : Dn K mg "_law_lean" s_law_lean ["tables", "hole", "other"]
  d_law_rings_weigh : Dn K mg "_law_rings_weigh" s_law_rings_weigh ["n", "weights"]
  d_law_is : Dn K mg "_law_is" s_law_is ["load", "told", "due"]
  d_law_rows_good : Dn K mg "_law_rows_good" s_law_rows_good ["script", "n", "rows", "load"]
  d_law_weights : Dn K mg "_law_weights" s_law_weights ["script", "n"]
  d_law_twisted_good : Dn K mg "_law_twisted_good" s_law_twisted_good ["script", "other", "weights", "at"]
  b_len : mg "len" = none
  b_isinstance : mg "isinstance" = none
  b_int : mg "int" = none
  b_bool : mg "bool" = none
  b_list : mg "list" = none
  b_range : mg "range" = none
  b_min : mg "min" = none
  b_all : mg "all" = none
  b_sum : mg "sum" = none
  b_zip : mg "zip" = none
  b_reversed : mg "reversed" = none
def spPP : Sp := fun vs H Q _ => ∃ n p : Int, vs = [.int n, .int p] ∧ 1 ≤ n ∧ n ≤ 10000 ∧ 2 ≤ p ∧ p ≤ 10000 ∧ ∀ q, Pt.QEnd n p q → Q (.int q) H
def PairsAt (H : Hp) (r : Addr) (ps : List (Int × Int)) : Prop := ∃ as : List Addr, H r = some (.lst (as.map V.ref)) ∧ Paired (fun a (x : Int × Int) => H a = some (.tup [.int x.1, .int x.2])) as ps
def spParts : Sp := fun vs H Q _ => ∃ n : Int, vs = [.int n] ∧ 1 ≤ n ∧ n ≤ 10000 ∧ ∀ r H' ps, Same H H' → H r = none → PairsAt H' r ps → Pt.Parts n ps → Q (.ref r) H'

section
variable {C_NoRing : Addr} {P : Program} {w : World} {K : PySem.W.Frag} {mg : Str → Option Value} {base : Heap}
def spLaw (K : PySem.W.Frag) : Sp := fun vs H Q _ => ∃ (a : Addr) (ns : List Int), vs = [.ref a] ∧ SqL K H a (ns.map V.int) ∧ ns.length ≤ 63 ∧ ∀ H', Q (.bl true) H'
theorem ok_prime_power (T : Txt K mg C_NoRing) : Df P w K mg base 1 "prime_power" ["n", "p"] spPP := by
  refine T.d_prime_power.ok sc_prime_power (fun vs H Q E h => ?_) (fun f cdv A outer s H vs Q E hr h => ?_)
  · obtain ⟨_, _, rfl, _⟩ := h; rfl
  obtain ⟨n, p, rfl, n1, n2, p1, p2, q⟩ := h
  have nd := sc_prime_power.nd
  refine ⟨_, (pss_cons (ps_set (i := 2) nd rfl (Or.inl rfl) pe_int) (pss_cons (ps_while PassesOwn.never (pt_cmpR op_eq (pe_op op_mod (pv 0) (pe_op op_mulB (pv 2) (pv 1))) pe_int (nomark _)) (pss_one (ps_set (i := 2) nd rfl (Or.inl rfl) (pe_op op_mulB (pv 2) (pv 1))))) (pss_one (ps_ret (pv 2))))), ?_⟩
  refine ⟨fun m σ H' => H' = H ∧ ∃ q, σ = [some (.int n), some (.int p), some (.int q)] ∧ Pt.QInv n p q ∧ m = (n - q).toNat, ⟨_, rfl, 1, rfl, Pt.q0 n p, rfl⟩, ?_⟩
  rintro m σ H' ⟨rfl, z, rfl, hz, rfl⟩
  have z1 := hz.pos
  have z2 := Pt.q_le n1 hz
  have zp := Pt.q_grow p1 z1
  refine ⟨_, rfl, _, rfl, _, rfl, _, _, rfl, rfl, mul_small (by omega) (by omega), _, _, rfl, rfl, (show 0 < z * p by omega), rfl, _, rfl, ?_⟩
  refine ite2 (fun c => ?_) (fun c => ?_)
  · have hq := Pt.q1 p1 hz (vint c)
    have hl := Pt.q_le n1 hq
    refine ⟨_, fun _ _ h => h, ?_⟩
    refine ⟨_, rfl, _, rfl, _, _, rfl, rfl, mul_small (by omega) (by omega), ?_⟩
    exact ⟨(n - z * p).toNat, by omega, rfl, _, rfl, hq, rfl⟩
  · exact ⟨_, rfl, q z (Pt.q2 hz (nvint c))⟩
theorem ok_parts (T : Txt K mg C_NoRing) : Df P w K mg base 2 "parts" ["n"] spParts := by
  have D_prime_power := ok_prime_power (P := P) (w := w) (base := base) T
  refine T.d_parts.ok sc_parts (fun vs H Q E h => ?_) (fun f cdv A outer s H vs Q E hr h => ?_)
  · obtain ⟨_, rfl, _⟩ := h; rfl
  obtain ⟨n, rfl, n1, n2, q⟩ := h
  have nd := sc_parts.nd
  refine ⟨_, (pss_cons (ps_set (i := 1) nd rfl (Or.inl rfl) (pe_lst pa_nil)) (pss_cons (ps_set (i := 2) nd rfl (Or.inl rfl) (pv 0)) (pss_cons (ps_set (i := 3) nd rfl (Or.inl rfl) pe_int) (pss_cons (ps_while PassesOwn.never (pt_cmpR op_le (pe_op op_mulB (pv 3) (pv 3)) (pv 2) (nomark _)) (pss_cons (ps_set (i := 4) nd rfl (Or.inl rfl) (pe_def D_prime_power (hr.mono (by decide)) (by rfl) (pa_cons (pv 2) (pa_cons (pv 3) pa_nil)))) (pss_cons (ps_if (pt_cmpR op_gt (pv 4) pe_int (nomark _)) (pss_cons (ps_expr (pe_bm PySem.F.plainAttrs_list PySem.F.slot_list_append PySem.F.type_list_append mt_append (pv 1) (pa_cons (pe_tup (pa_cons (pv 3) (pa_cons (pv 4) pa_nil))) pa_nil))) (pss_one (ps_set (i := 2) nd rfl (Or.inl rfl) (pe_op op_fdivB (pv 2) (pv 4))))) pss_nil) (pss_one (ps_set (i := 3) nd rfl (Or.inl rfl) (pe_op op_add (pv 3) pe_int)))))) (pss_cons (ps_if (pt_cmpR op_gt (pv 2) pe_int (nomark _)) (pss_one (ps_expr (pe_bm PySem.F.plainAttrs_list PySem.F.slot_list_append PySem.F.type_list_append mt_append (pv 1) (pa_cons (pe_tup (pa_cons (pv 2) (pa_cons (pv 2) pa_nil))) pa_nil)))) pss_nil) (pss_one (ps_ret (pv 1)))))))), ?_⟩
  refine ⟨Nat.zero_le _, fun r hr0 => ?_⟩
  refine ⟨_, rfl, ?_⟩
  refine ⟨fun m σ H' => Same H H' ∧ ∃ (as : List Addr) (ps : List (Int × Int)) (left p : Int) (qv : Option V), σ = [some (.int n), some (.ref r), some (.int left), some (.int p), qv] ∧
      H' r = some (.lst (as.map V.ref)) ∧ Paired (fun a (x : Int × Int) => H' a = some (.tup [.int x.1, .int x.2])) as ps ∧ Pt.PInv n ps left p ∧ 1 ≤ left ∧ left ≤ 10000 ∧ 2 ≤ p ∧ p ≤ 10001 ∧ (ps.length : Int) + 2 ≤ p ∧ m = (20000 - p).toNat,
    ⟨_, same_upd (Same.refl H) hr0, [], [], n, 2, none, rfl, upd_same, .nil, Pt.start n, n1, n2, by omega, by omega, by simp, rfl⟩, ?_⟩
  rintro m σ H' ⟨sm, as, ps, left, p, qv, rfl, hl, pr, inv, l1, l2, p1, p2, hlen, rfl⟩
  have al := Paired.length pr
  refine ⟨_, rfl, _, rfl, _, _, rfl, rfl, mul_small (by omega) (by omega), _, rfl, _, _, rfl, rfl, _, rfl, ?_⟩
  refine ite2 (fun c => ?_) (fun c => ?_)
  · have hd := dec c
    have a := Int.mul_le_mul_of_nonneg_left p1 (show 0 ≤ p by omega)
    refine ⟨_, fun _ _ h => h, ?_⟩
    refine ⟨_, rfl, _, rfl, left, p, rfl, l1, l2, p1, by omega, fun z hz => ?_⟩
    refine ⟨_, rfl, _, _, rfl, rfl, _, rfl, ?_⟩
    refine ite2 (fun c => ?_) (fun c => ?_)
    · have z1 := dec c
      have zl := Pt.q_le l1 hz.inv
      have lp := Pt.left_pos l1 hz.inv.dv hz.inv.pos
      refine ⟨_, rfl, .inl ⟨rfl, _, SqL.of hl⟩, _, rfl, _, rfl, (by show 2 ≤ sizeLine; decide), fun t ht => ?_⟩
      have rt : r ≠ t := ne_of_none hl ht
      refine ⟨r, _, _, rfl, rfl, (upd_ne rt).trans hl, by rw [List.length_map]; exact size1 (by omega), ?_⟩
      refine ⟨_, rfl, _, rfl, _, _, rfl, rfl, div_small (by omega) (by omega), ?_⟩
      refine ⟨_, rfl, _, _, rfl, rfl, ?_⟩
      refine ⟨(20000 - (p + 1)).toNat, by omega, same_upd (same_upd sm (sm.free ht)) hr0, as ++ [t], ps ++ [(p, z)], left / z, p + 1, some (.int z), rfl, ?_, ?_, Pt.turnA p1 inv hz z1, lp.1, by omega, by omega, by omega, by rw [List.length_append, List.length_singleton]; omega, rfl⟩
      · rw [upd_same, List.map_append]; rfl
      · refine Paired.snoc (Paired.mapP pr fun a x e => ?_) ?_
        · rw [upd_ne (ne_of e hl (fun z => by cases z)), upd_ne (ne_of_none e ht)]; exact e
        · rw [upd_ne (Ne.symm rt)]; exact upd_same
    · refine ⟨_, rfl, _, _, rfl, rfl, ?_⟩
      exact ⟨(20000 - (p + 1)).toNat, by omega, sm, as, ps, left, p + 1, some (.int z), rfl, hl, pr, Pt.turnB inv hz (ndec c), l1, l2, by omega, by omega, by omega, rfl⟩
  · have hd := ndec c
    refine ⟨_, rfl, _, _, rfl, rfl, _, rfl, ?_⟩
    refine ite2 (fun c => ?_) (fun c => ?_)
    · have z1 := dec c
      refine ⟨_, rfl, .inl ⟨rfl, _, SqL.of hl⟩, _, rfl, _, rfl, (by show 2 ≤ sizeLine; decide), fun t ht => ?_⟩
      have rt : r ≠ t := ne_of_none hl ht
      refine ⟨r, _, _, rfl, rfl, (upd_ne rt).trans hl, by rw [List.length_map]; exact size1 (by omega), ?_⟩
      refine ⟨_, rfl, ?_⟩
      refine q r _ (ps ++ [(left, left)]) (same_upd (same_upd sm (sm.free ht)) hr0) hr0 ⟨as ++ [t], ?_, ?_⟩ (Pt.endA p1 inv hd z1)
      · rw [upd_same, List.map_append]; rfl
      · refine Paired.snoc (Paired.mapP pr fun a x e => ?_) ?_
        · rw [upd_ne (ne_of e hl (fun z => by cases z)), upd_ne (ne_of_none e ht)]; exact e
        · rw [upd_ne (Ne.symm rt)]; exact upd_same
    · exact ⟨_, rfl, q r H' ps sm hr0 ⟨as, hl, pr⟩ (Pt.endB inv l1 (ndec c))⟩

def spCell (K : PySem.W.Frag) : Sp := fun vs H Q _ => ∃ (a : Addr) (ns : List Int) (k : Int), vs = [.ref a, .int k] ∧ SqL K H a (ns.map V.int) ∧ 0 ≤ k ∧ ∀ v : Int, Q (.int v) H
theorem ok_law_cell (T : Txt K mg C_NoRing) : Df P w K mg base 1 "_law_cell" ["script", "k"] (spCell K) := by
  refine T.d_law_cell.ok sc_law_cell (fun vs H Q E h => ?_) (fun f cdv A outer s H vs Q E hr h => ?_)
  · obtain ⟨_, _, _, rfl, _⟩ := h; rfl
  obtain ⟨a, ns, k, rfl, hS, k0, q⟩ := h
  have nd := sc_law_cell.nd
  refine ⟨_, (pss_cons (ps_if (pt_cmpR op_lt (pv 1) (pe_callB call_len_seq (by rfl) T.b_len L2.bi_len (pa_cons (pv 0) pa_nil)) (nomark _)) (pss_one (ps_ret (pe_ix ix_list (pv 0) (pv 1) (fun _ _ => rfl)))) pss_nil) (pss_one (ps_ret pe_int))), ?_⟩
  refine ⟨_, rfl, _, rfl, a, _, rfl, .inl hS, _, _, rfl, rfl, _, rfl, ?_⟩
  refine ite2 (fun c => ?_) (fun c => q 0)
  have hk := dec c
  rw [List.length_map] at hk
  obtain ⟨v, hv, _⟩ := atI_in k0 hk
  exact ⟨_, rfl, _, rfl, a, _, _, _, rfl, rfl, hS, hv, q v⟩

def spNum : Sp := fun vs H Q _ => ∃ c : Int, vs = [.int c] ∧ ∀ v : Int, v.natAbs < 2 ^ 200 → Q (.int v) H
theorem ok_law_number (T : Txt K mg C_NoRing) : Df P w K mg base 1 "_law_number" ["cell"] spNum := by
  refine T.d_law_number.ok sc_law_number (fun vs H Q E h => ?_) (fun f cdv A outer s H vs Q E hr h => ?_)
  · obtain ⟨_, rfl, _⟩ := h; rfl
  obtain ⟨c, rfl, q⟩ := h
  have nd := sc_law_number.nd
  have B := Ld.numB c
  have pw : CPow 10 60 := ⟨by decide, by decide, by decide⟩
  refine ⟨_, (pss_cons (ps_if (pt_cmpR op_eq (pe_op op_mod (pv 0) pe_int) pe_int (nomark _)) (pss_one (ps_ret (pe_op op_sub (pe_op op_mod (pe_op op_fdivB (pv 0) pe_int) pe_int) pe_int))) pss_nil) (pss_cons (ps_if (pt_cmpR op_eq (pe_op op_mod (pv 0) pe_int) pe_int (nomark _)) (pss_one (ps_ret (pe_op op_sub (pe_op op_mod (pe_op op_fdivB (pv 0) pe_int) pe_int) pe_int))) pss_nil) (pss_one (ps_ret (pe_op op_sub (pe_op op_mod (pe_op op_fdivB (pv 0) pe_int) (pe_op op_add (pe_op op_mulB pe_int (pe_op op_pow pe_int pe_int)) pe_int)) (pe_op op_pow pe_int pe_int)))))), ?_⟩
  refine ⟨_, rfl, _, _, rfl, rfl, (by show (0 : Int) < _; decide), rfl, _, rfl, ?_⟩
  refine ite2 (fun _ => ?_) (fun _ => ?_)
  · exact ⟨_, rfl, _, _, rfl, rfl, div_small (by decide) (by decide), _, _, rfl, rfl, (by show (0 : Int) < _; decide), _, _, rfl, rfl, q _ B.1⟩
  refine ⟨_, rfl, _, _, rfl, rfl, (by show (0 : Int) < _; decide), rfl, _, rfl, ?_⟩
  refine ite2 (fun _ => ?_) (fun _ => ?_)
  · exact ⟨_, rfl, _, _, rfl, rfl, div_small (by decide) (by decide), _, _, rfl, rfl, (by show (0 : Int) < _; decide), _, _, rfl, rfl, q _ B.2.1⟩
  refine ⟨_, rfl, _, _, rfl, rfl, div_small (by decide) (by decide), _, _, rfl, rfl, pw, _, _, rfl, rfl, mul_small (by decide) (by decide), _, _, rfl, rfl, _, _, rfl, rfl, (show (0 : Int) < 2 * 10 ^ (60 : Int).toNat + 1 by decide +kernel), _, _, rfl, rfl, pw, _, _, rfl, rfl, q _ B.2.2⟩

def spWheel : Sp := fun vs H Q _ => ∃ c : Int, vs = [.int c] ∧ ∀ m : Nat, 1 ≤ m → m ≤ 420 → Q (.int m) H
theorem ok_law_wheel (T : Txt K mg C_NoRing) : Df P w K mg base 1 "_law_wheel" ["cell"] spWheel := by
  refine T.d_law_wheel.ok sc_law_wheel (fun vs H Q E h => ?_) (fun f cdv A outer s H vs Q E hr h => ?_)
  · obtain ⟨_, rfl, _⟩ := h; rfl
  obtain ⟨c, rfl, q⟩ := h
  have nd := sc_law_wheel.nd
  have a1 := Int.emod_nonneg (c / 8) (show (420 : Int) ≠ 0 by decide)
  have a2 := Int.emod_lt_of_pos (c / 8) (show (0 : Int) < 420 by decide)
  have b1 := Int.emod_nonneg (c / 8) (show (36 : Int) ≠ 0 by decide)
  have b2 := Int.emod_lt_of_pos (c / 8) (show (0 : Int) < 36 by decide)
  refine ⟨_, (pss_cons (ps_if (pt_cmpR op_eq (pe_op op_mod (pv 0) pe_int) pe_int (nomark _)) (pss_one (ps_ret (pe_op op_add pe_int (pe_op op_mod (pe_op op_fdivB (pv 0) pe_int) pe_int)))) pss_nil) (pss_one (ps_ret (pe_op op_add pe_int (pe_op op_mod (pe_op op_fdivB (pv 0) pe_int) pe_int))))), ?_⟩
  refine ⟨_, rfl, _, _, rfl, rfl, (by show (0 : Int) < _; decide), rfl, _, rfl, ?_⟩
  refine ite2 (fun _ => ?_) (fun _ => ?_)
  · refine ⟨_, rfl, _, _, rfl, rfl, div_small (by decide) (by decide), _, _, rfl, rfl, (by show (0 : Int) < _; decide), _, _, rfl, rfl, ?_⟩
    have e : 1 + c / 8 % 420 = (((1 + c / 8 % 420).toNat : Nat) : Int) := by omega
    dsimp only; rw [e]; exact q _ (by omega) (by omega)
  · refine ⟨_, rfl, _, _, rfl, rfl, div_small (by decide) (by decide), _, _, rfl, rfl, (by show (0 : Int) < _; decide), _, _, rfl, rfl, ?_⟩
    have e : 1 + c / 8 % 36 = (((1 + c / 8 % 36).toNat : Nat) : Int) := by omega
    dsimp only; rw [e]; exact q _ (by omega) (by omega)

def spLoad (K : PySem.W.Frag) : Sp := fun vs H Q _ => ∃ (a : Addr) (ns : List Int) (m : Nat) (kd ks : Int), vs = [.ref a, .int m, .int kd, .int ks] ∧ SqL K H a (ns.map V.int) ∧ ns.length ≤ 63 ∧ 1 ≤ m ∧ m ≤ 420 ∧ 1 ≤ ks ∧ ks ≤ 10 ∧ ∀ r H' ld, Same H H' → H r = none → H' r = some (.lst (ld.map V.int)) → ld.length = m → Ld.Bd (2 ^ 206) ld → Q (.ref r) H'
theorem ok_law_load (T : Txt K mg C_NoRing) : Df P w K mg base 2 "_law_load" ["script", "n", "kind", "kinds"] (spLoad K) := by
  have D_law_number := ok_law_number (P := P) (w := w) (base := base) T
  refine T.d_law_load.ok sc_law_load (fun vs H Q E h => ?_) (fun f cdv A outer s H vs Q E hr h => ?_)
  · obtain ⟨_, _, _, _, _, rfl, _⟩ := h; rfl
  obtain ⟨a, ns, m, kd, ks, rfl, hS, h63, m1, m2, k1, k2, q⟩ := h
  have nd := sc_law_load.nd
  refine ⟨_, (pss_cons (ps_set (i := 4) nd rfl (Or.inl rfl) (pe_op op_rep (pe_lst (pa_cons pe_int pa_nil)) (pv 1))) (pss_cons (ps_for PassesOwn.never rfl (pi_range2 (by rfl) T.b_range (pa_cons pe_int (pa_cons (pe_callB (call_min2 rfl) (by rfl) T.b_min L2.bi_min (pa_cons (pe_callB call_len_seq (by rfl) T.b_len L2.bi_len (pa_cons (pv 0) pa_nil)) (pa_cons pe_int pa_nil))) pa_nil))) (pg_name (i := 5) nd rfl (Or.inl rfl)) (pss_one (ps_if (pt_cmpR op_eq (pe_op op_mod (pv 5) (pv 3)) (pv 2) (nomark _)) (pss_cons (ps_set (i := 6) nd rfl (Or.inl rfl) (pe_op op_mod (pe_op op_add (pe_op op_fdivB (pe_ix ix_list (pv 0) (pv 5) (fun _ _ => rfl)) pe_int) (pe_op op_mulB (pv 5) pe_int)) (pv 1))) (pss_one (ps_asg (pe_op op_add (pe_ix ix_list (pv 4) (pv 6) (fun _ _ => rfl)) (pe_def D_law_number (hr.mono (by decide)) (by rfl) (pa_cons (pe_ix ix_list (pv 0) (pv 5) (fun _ _ => rfl)) pa_nil))) (pg_sub (pv 4) (pv 6) set_list)))) pss_nil))) (pss_one (ps_ret (pv 4))))), ?_⟩
  refine ⟨(by show 1 ≤ sizeLine; decide), fun l hl => ⟨_, rfl, l, _, _, rfl, rfl, upd_same, by omega, by omega, (by show 1 * _ ≤ _; exact size2 (by omega)), fun p hp => ?_⟩⟩
  have lp : l ≠ p := ne_of_none upd_same hp
  have hp0 : H p = none := by rwa [upd_ne (Ne.symm lp)] at hp
  rw [rep0]
  have sm0 : Same H (upd (upd H l (.lst [V.int 0])) p (.lst ((List.replicate m (0 : Int)).map V.int))) := same_upd (same_upd (Same.refl H) hl) hp0
  have h0 : upd (upd H l (.lst [V.int 0])) p (.lst ((List.replicate m (0 : Int)).map V.int)) p = some (.lst ((List.replicate m (0 : Int)).map V.int)) := upd_same
  generalize upd (upd H l (.lst [V.int 0])) p (.lst ((List.replicate m (0 : Int)).map V.int)) = H0 at sm0 h0 ⊢
  refine ⟨_, rfl, a, _, rfl, .inl (sm0.seq hS), _, _, rfl, _, _, rfl, ?_⟩
  rw [List.length_map]
  generalize hz : (if (62 : Int) < (ns.length : Int) then (62 : Int) else (ns.length : Int)) = z
  have z1 : 0 ≤ z ∧ z ≤ 62 ∧ z ≤ ns.length := by rw [← hz]; split <;> omega
  refine ⟨⟨by omega, by omega, by omega, by omega⟩, ?_⟩
  refine for_range (fun i σ H2 => Same H H2 ∧ ∃ (ld : List Int) (o1 o2 : Option V), σ = [some (.ref a), some (.int m), some (.int kd), some (.int ks), some (.ref p), o1, o2] ∧ H2 p = some (.lst (ld.map V.int)) ∧ ld.length = m ∧ Ld.Bd (i * 2 ^ 200) ld)
    ⟨sm0, List.replicate m 0, none, none, rfl, h0, by simp, Ld.bd_rep _ _⟩ ?_ ?_
  · rintro i σ H2 hi ⟨sm, ld, o1, o2, rfl, h2, len, bd⟩
    refine ⟨_, rfl, _, rfl, _, _, rfl, rfl, by omega, _, rfl, rfl, _, rfl, ?_⟩
    refine ite2 (fun c => ?_) (fun c => ?_)
    · obtain ⟨v, hv, _⟩ := atI_in (ns := ns) (k := 2 + (i : Int)) (by omega) (by omega)
      have hS2 := sm.seq hS
      refine ⟨_, rfl, _, rfl, a, _, _, _, rfl, rfl, hS2, hv, _, _, rfl, rfl, div_small (by decide) (by decide), _, rfl, _, _, rfl, rfl, mul_small (by omega) (by omega), _, _, rfl, rfl, _, rfl, _, _, rfl, rfl, by omega, ?_⟩
      refine ⟨_, rfl, _, rfl, p, _, _, _, rfl, rfl, SqL.of h2, atI_mod len (by omega) _, _, rfl, _, rfl, a, _, _, _, rfl, rfl, hS2, hv, v, rfl, fun wv hw => ⟨_, _, rfl, rfl, _, rfl, _, rfl, p, _, _, _, rfl, rfl, h2, ixN_mod (mlen len) (by omega) _, ?_⟩⟩
      rw [set_int]
      refine ⟨same_upd sm hp0, _, _, _, rfl, upd_same, by rw [List.length_set, len], ?_⟩
      have b1 := Ld.at_bd bd (v / 41 + (2 + (i : Int)) * 5)
      refine Ld.bd_set bd (by rw [Nat.succ_mul]; omega) ?_
      rw [Nat.succ_mul]; omega
    · exact ⟨sm, ld, _, _, rfl, h2, len, Ld.bd_mono bd (by rw [Nat.succ_mul]; omega)⟩
  · rintro σ H2 ⟨sm, ld, o1, o2, rfl, h2, len, bd⟩
    refine ⟨_, rfl, q p H2 ld sm hp0 h2 len (Ld.bd_mono bd ?_)⟩
    have : (z - 2).toNat * 2 ^ 200 ≤ 64 * 2 ^ 200 := Nat.mul_le_mul_right _ (by omega)
    exact Nat.le_trans this (by decide +kernel)

def spPrimes : Sp := fun vs H Q _ => ∃ n : Nat, vs = [.int n] ∧ 1 ≤ n ∧ n ≤ 420 ∧ ∀ r H' ps, Same H H' → H r = none → H' r = some (.lst ((ps.map Prod.fst).map V.int)) → Pt.Parts n ps → Q (.ref r) H'
theorem ok_law_primes (T : Txt K mg C_NoRing) : Df P w K mg base 1 "_law_primes" ["n"] spPrimes := by
  refine T.d_law_primes.ok sc_law_primes (fun vs H Q E h => ?_) (fun f cdv A outer s H vs Q E hr h => ?_)
  · obtain ⟨_, rfl, _⟩ := h; rfl
  obtain ⟨n, rfl, n1, n2, q⟩ := h
  have nd := sc_law_primes.nd
  refine ⟨_, (pss_cons (ps_set (i := 1) nd rfl (Or.inl rfl) (pe_lst pa_nil)) (pss_cons (ps_set (i := 2) nd rfl (Or.inl rfl) pe_int) (pss_cons (ps_while PassesOwn.never (pt_cmpR op_gt (pv 0) pe_int (nomark _)) (pss_cons (ps_if (pt_cmpR op_eq (pe_op op_mod (pv 0) (pv 2)) pe_int (nomark _)) (pss_cons (ps_expr (pe_bm PySem.F.plainAttrs_list PySem.F.slot_list_append PySem.F.type_list_append mt_append (pv 1) (pa_cons (pv 2) pa_nil))) (pss_one (ps_while PassesOwn.never (pt_cmpR op_eq (pe_op op_mod (pv 0) (pv 2)) pe_int (nomark _)) (pss_one (ps_set (i := 0) nd rfl (Or.inl rfl) (pe_op op_fdivB (pv 0) (pv 2))))))) pss_nil) (pss_one (ps_set (i := 2) nd rfl (Or.inl rfl) (pe_op op_add (pv 2) pe_int))))) (pss_one (ps_ret (pv 1)))))), ?_⟩
  refine ⟨Nat.zero_le _, fun r hr0 => ?_⟩
  refine ⟨fun m σ H' => Same H H' ∧ ∃ (left p : Int) (ps : List (Int × Int)), σ = [some (.int left), some (.ref r), some (.int p)] ∧ H' r = some (.lst ((ps.map Prod.fst).map V.int)) ∧ Pt.PInv n ps left p ∧ 2 ≤ p ∧ p ≤ n + 2 ∧ 1 ≤ left ∧ left ≤ n ∧ (ps.length : Int) ≤ p ∧ m = (n + 2 - p).toNat,
    ⟨_, same_upd (Same.refl H) hr0, n, 2, [], rfl, upd_same, Pt.start n, by omega, by omega, by omega, by omega, by simp, rfl⟩, ?_⟩
  rintro m σ H' ⟨sm, left, p, ps, rfl, hr1, pi, p2, pn, l1, ln, pl, rfl⟩
  refine ⟨_, rfl, _, _, rfl, rfl, _, rfl, ?_⟩
  refine ite2 (fun c => ?_) (fun c => ?_)
  · have lg := dec c
    have ple : p ≤ left := by
      rcases Int.lt_or_le left p with z | z
      · exact absurd (Int.dvd_refl left) (pi.nod left (by omega) z)
      · exact z
    refine ⟨_, fun _ _ h => h, ?_⟩
    refine ⟨_, rfl, _, rfl, _, _, rfl, rfl, (show 0 < p by omega), rfl, _, rfl, ?_⟩
    refine ite2 (fun d => ?_) (fun d => ?_)
    · have d0 := vint d
      refine ⟨_, rfl, .inl ⟨rfl, _, SqL.of hr1⟩, _, rfl, r, _, _, rfl, rfl, hr1, by rw [List.length_map, List.length_map]; exact size1 (by omega), ?_⟩
      have hr2 : upd H' r (.lst ((ps.map Prod.fst).map V.int ++ [.int p])) r = some (.lst (((ps.map Prod.fst) ++ [p]).map V.int)) := by rw [upd_same, List.map_append]; rfl
      have sm2 : Same H (upd H' r (.lst ((ps.map Prod.fst).map V.int ++ [.int p]))) := same_upd sm hr0
      generalize upd H' r (.lst ((ps.map Prod.fst).map V.int ++ [.int p])) = H2 at hr2 sm2 ⊢
      refine ⟨fun m σ H3 => H3 = H2 ∧ ∃ (l2 z : Int), σ = [some (.int l2), some (.ref r), some (.int p)] ∧ Pt.QInv left p z ∧ l2 * z = left ∧ 1 ≤ l2 ∧ l2 ≤ left ∧ m = l2.toNat,
        ⟨_, rfl, left, 1, rfl, Pt.q0 left p, by omega, l1, by omega, rfl⟩, ?_⟩
      rintro m' σ H3 ⟨rfl, l2, z, rfl, qi, e, l21, l2l, rfl⟩
      refine ⟨_, rfl, _, rfl, _, _, rfl, rfl, (show 0 < p by omega), rfl, _, rfl, ?_⟩
      refine ite2 (fun d2 => ?_) (fun d2 => ?_)
      · have d2' := vint d2
        obtain ⟨t, ht⟩ := Int.dvd_of_emod_eq_zero d2'
        have et : l2 / p = t := by rw [ht]; exact Int.mul_ediv_cancel_left _ (by omega)
        have t1 : 1 ≤ t := by
          rcases Int.lt_or_le t 1 with y | y
          · have := Int.mul_le_mul_of_nonneg_left (show t ≤ 0 by omega) (show 0 ≤ p by omega); omega
          · exact y
        have tl : t < l2 := by have := Int.mul_le_mul_of_nonneg_right p2 (show 0 ≤ t by omega); omega
        have dz : left % (z * p) = 0 := Int.emod_eq_zero_of_dvd ⟨t, by rw [← e, ht, Int.mul_comm (p * t) z, Int.mul_assoc]⟩
        refine ⟨_, fun _ _ h => h, ?_⟩
        refine ⟨_, rfl, _, rfl, _, _, rfl, rfl, div_small (by omega) (by omega), ?_⟩
        dsimp only
        rw [et]
        exact ⟨t.toNat, by omega, rfl, t, z * p, rfl, Pt.q1 p2 qi dz, by rw [← e, ht, Int.mul_comm z p, ← Int.mul_assoc, Int.mul_comm t p], t1, by omega, rfl⟩
      · have nd2 := nvint d2
        have zp := qi.pos
        have qe : Pt.QEnd left p z := Pt.q2 qi fun y => nd2 (by
          obtain ⟨t, ht⟩ := Int.dvd_of_emod_eq_zero y
          rw [← e, Int.mul_comm l2 z, Int.mul_assoc] at ht
          have := Int.eq_of_mul_eq_mul_left (show z ≠ 0 by omega) ht
          rw [this]; exact Int.mul_emod_right _ _)
        have z1 : z > 1 := by
          rcases Int.lt_or_le 1 z with y | y
          · exact y
          · have : z = 1 := by omega
            rw [this, Int.mul_one] at e
            exact absurd d0 (by rw [← e]; exact nd2)
        have lz : left / z = l2 := by rw [← e]; exact Int.mul_ediv_cancel _ (by omega)
        have pi2 := Pt.turnA p2 pi qe z1
        rw [lz] at pi2
        refine ⟨_, rfl, _, _, rfl, rfl, ?_⟩
        refine ⟨(n + 2 - (p + 1)).toNat, by omega, sm2, l2, p + 1, ps ++ [(p, z)], rfl, ?_, pi2, by omega, by omega, l21, by omega, by simp; omega, rfl⟩
        rw [List.map_append]; exact hr2
    · have nd0 := nvint d
      have qe : Pt.QEnd left p 1 := Pt.q2 (Pt.q0 left p) (by rw [Int.one_mul]; exact nd0)
      refine ⟨_, rfl, _, _, rfl, rfl, ?_⟩
      exact ⟨(n + 2 - (p + 1)).toNat, by omega, sm, left, p + 1, ps, rfl, hr1, Pt.turnB pi qe (by omega), by omega, by omega, l1, ln, by omega, rfl⟩
  · have := ndec c
    exact ⟨_, rfl, q r H' ps sm hr0 hr1 (Pt.endB pi l1 (by omega))⟩
theorem pq_le {n : Nat} {ps : List (Int × Int)} {p q : Int} (hp : Pt.Parts n ps) (mem : (p, q) ∈ ps) : 2 ≤ p ∧ p ≤ q ∧ q ≤ n := by
  have a := Pt.row_le (hp.row _ mem)
  have b := Pt.le_Prd ps hp.row _ mem
  rw [hp.prd] at b
  exact ⟨a.1, a.2, b⟩

def spLay : Sp := fun vs H Q _ => ∃ (r : Addr) (a : List Int) (n : Nat) (p hole many : Int), vs = [.ref r, .int p, .int hole, .int many] ∧ H r = some (.lst (a.map V.int)) ∧ a.length = n ∧ 1 ≤ n ∧ n ≤ 420 ∧ 2 ≤ p ∧ p ∣ (n : Int) ∧
  ∀ H' b, (∀ c o, c ≠ r → H c = some o → H' c = some o) → H' r = some (.lst (b.map V.int)) → b.length = n → (∀ x, Ld.at' b x = Ld.at' a x + Rg.rv n (p, hole, many) x) → Q .non H'
def spRH : Sp := fun vs H Q _ => ∃ (n : Nat) (p hole : Int) (st : Nat), vs = [.int n, .int p, .int hole] ∧ 1 ≤ n ∧ n ≤ 420 ∧ 2 ≤ p ∧ p.toNat ≤ n ∧ (n : Int) / p = st ∧ 0 < st ∧ n = p.toNat * st ∧ ∀ t, H t = none → Q (.ref t) (upd H t (.lst ((rg3 (hole % st) st p.toNat).map V.int)))
theorem ok_ring_holes (T : Txt K mg C_NoRing) : Df P w K mg base 1 "ring_holes" ["n", "p", "hole"] spRH := by
  refine T.d_ring_holes.ok sc_ring_holes (fun vs H Q E h => ?_) (fun f cdv A outer s H vs Q E hr h => ?_)
  · obtain ⟨_, _, _, _, rfl, _⟩ := h; rfl
  obtain ⟨n, p, hole, st, rfl, n1, n2, p2, pn, est, st0, enp, q⟩ := h
  have nd := sc_ring_holes.nd
  have stn : (st : Int) ≤ n := by rw [← est]; exact Int.ediv_le_self _ (by omega)
  have lo0 := Int.emod_nonneg hole (show (st : Int) ≠ 0 by omega)
  have lo1 := Int.emod_lt_of_pos hole (show (0 : Int) < st by omega)
  refine ⟨_, (pss_cons (ps_set (i := 3) nd rfl (Or.inl rfl) (pe_op op_fdivB (pv 0) (pv 1))) (pss_one (ps_ret (pe_lrng3 rfl (by rfl) T.b_list (by rfl) T.b_range (pa_cons (pe_op op_mod (pv 2) (pv 3)) (pa_cons (pv 0) (pa_cons (pv 3) pa_nil))))))), ?_⟩
  refine ⟨_, rfl, _, rfl, _, _, rfl, rfl, div_small (by omega) (by omega), ?_⟩
  dsimp only
  rw [est]
  refine ⟨_, rfl, _, rfl, _, _, rfl, rfl, (show (0 : Int) < st by omega), _, rfl, _, rfl, _, _, _, rfl, ⟨lo0, by omega, by omega, by omega, by omega, by omega⟩, ?_⟩
  have cn := Rg.cnt_ring st0 (show 0 < p.toNat by omega) enp hole
  have c3 : cnt3 (hole % (st : Int)) (n : Int) (st : Int) = p.toNat := by unfold cnt3; rw [if_pos cn.1]; exact cn.2
  rw [c3]
  exact q
theorem ok_lay_ring (T : Txt K mg C_NoRing) : Df P w K mg base 2 "lay_ring" ["load", "p", "hole", "many"] spLay := by
  have D_ring_holes := ok_ring_holes (P := P) (w := w) (base := base) T
  refine T.d_lay_ring.ok sc_lay_ring (fun vs H Q E h => ?_) (fun f cdv A outer s H vs Q E hr h => ?_)
  · obtain ⟨_, _, _, _, _, _, rfl, _⟩ := h; rfl
  obtain ⟨r, a, n, p, hole, many, rfl, ha, la, n1, n2, p2, pd, q⟩ := h
  have nd := sc_lay_ring.nd
  obtain ⟨st, est, st0, enp, ple⟩ := Rg.step_of n1 p2 pd
  have stn : (st : Int) ≤ n := by rw [← est]; exact Int.ediv_le_self _ (by omega)
  refine ⟨_, (pss_one (ps_for PassesOwn.never rfl (pi_list (pe_def D_ring_holes (hr.mono (by decide)) (by rfl) (pa_cons (pe_callB call_len_seq (by rfl) T.b_len L2.bi_len (pa_cons (pv 0) pa_nil)) (pa_cons (pv 1) (pa_cons (pv 2) pa_nil))))) (pg_name (i := 4) nd rfl (Or.inl rfl)) (pss_one (ps_asg (pe_op op_add (pe_ix ix_list (pv 0) (pv 4) (fun _ _ => rfl)) (pv 3)) (pg_sub (pv 0) (pv 4) set_list))))), ?_⟩
  refine ⟨_, rfl, r, _, rfl, .inl (SqL.of ha), _, rfl, _, rfl, n, p, hole, st, by rw [mlen la]; rfl, n1, n2, p2, ple, est, st0, enp, fun t ht => ⟨t, rfl, ⟨_, SqL.of upd_same⟩, ?_⟩⟩
  have nt : r ≠ t := ne_of_none ha ht
  have kp0 : ∀ c o, c ≠ r → H c = some o → upd H t (.lst ((rg3 (hole % st) st p.toNat).map V.int)) c = some o := fun c o _ h => (upd_ne (ne_of_none h ht)).trans h
  have ha0 : upd H t (.lst ((rg3 (hole % st) st p.toNat).map V.int)) r = some (.lst (a.map V.int)) := (upd_ne nt).trans ha
  have ht0 : upd H t (.lst ((rg3 (hole % st) st p.toNat).map V.int)) t = some (.lst ((rg3 (hole % st) st p.toNat).map V.int)) := upd_same
  generalize upd H t (.lst ((rg3 (hole % st) st p.toNat).map V.int)) = H0 at kp0 ha0 ht0 ⊢
  have rl : ((rg3 (hole % st) st p.toNat).map V.int).length = p.toNat := by unfold rg3; rw [List.length_map, List.length_map, List.length_range]
  refine for_list (xs := (rg3 (hole % st) st p.toNat).map V.int) (fun i σ H2 => (∀ c o, c ≠ r → H c = some o → H2 c = some o) ∧ H2 t = some (.lst ((rg3 (hole % st) st p.toNat).map V.int)) ∧ ∃ (b : List Int) (o1 : Option V), σ = [some (.ref r), some (.int p), some (.int hole), some (.int many), o1] ∧ H2 r = some (.lst (b.map V.int)) ∧ b.length = n ∧
      ∀ x : Int, Ld.at' b x = Ld.at' a x + (if (x - hole) % st = 0 ∧ (x % n) / st < (i : Int) then many else 0))
    ⟨kp0, ht0, a, none, rfl, ha0, la, Rg.lay0 (by omega) st0 hole many a⟩ (fun i σ H2 _ z => SqL.of z.2.1) ?_ ?_
  · rintro i xv σ H2 hx ⟨kp, ht2, b, o1, rfl, hb, lb, inv⟩
    obtain ⟨k, rfl, ek⟩ := int_at hx
    have hi : i < p.toNat := by have := (List.getElem?_eq_some_iff.mp hx).1; rwa [rl] at this
    have ek' : k = hole % st + (i : Int) * st := by
      unfold rg3 at ek
      rw [List.getElem?_map, List.getElem?_range hi] at ek
      exact (Option.some.inj ek).symm
    subst ek'
    obtain ⟨y0, y1, nx⟩ := Rg.lay1 st0 enp hi lb inv
    refine ⟨_, rfl, _, rfl, r, _, _, _, rfl, rfl, SqL.of hb, atI_k y0 (by omega), _, rfl, _, _, rfl, rfl, _, rfl, _, rfl, r, _, _, _, rfl, rfl, hb, ixN_in y0 (by rw [mlen lb]; exact y1), ?_⟩
    rw [set_int]
    exact ⟨fun c o ne h => (upd_ne ne).trans (kp c o ne h), (upd_ne (Ne.symm nt)).trans ht2, _, _, rfl, upd_same, by rw [List.length_set, lb], nx⟩
  · rintro σ H2 ⟨kp, _, b, o1, rfl, hb, lb, inv⟩
    rw [rl] at inv
    refine q H2 b kp hb lb fun x => ?_
    rw [Rg.lay2 st0 (show 0 < p.toNat by omega) enp inv x]
    unfold Rg.rv
    rw [est]

def spLaid (C : Addr) : Sp := fun vs H Q E => ∃ (n : Nat) (r : Addr) (rows : List (Int × Int × Int)) (ps : List (Int × Int)), vs = [.int n, .ref r] ∧ 1 ≤ n ∧ n ≤ 420 ∧ TrAt H r rows ∧ Pt.Parts n ps ∧
  ((∀ x ∈ rows, x.1 ∈ ps.map Prod.fst) → ∀ t H' b, Same H H' → H t = none → H' t = some (.lst (b.map V.int)) → b.length = n → (∀ x, Ld.at' b x = Rg.rvs n rows x) → Q (.ref t) H') ∧
  ((∃ x ∈ rows, ¬ x.1 ∈ ps.map Prod.fst) → ∀ H', Same H H' → E (.ref C) none H')
theorem ok_laid (T : Txt K mg C_NoRing) : Dx P w K mg base 3 "laid" ["n", "rows"] (spLaid C_NoRing) := by
  have D_parts := ok_parts (P := P) (w := w) (base := base) T
  have D_lay_ring := ok_lay_ring (P := P) (w := w) (base := base) T
  refine T.d_laid.okx sc_laid (fun vs H Q E h => ?_) (fun f cdv A outer s H vs Q E hr h => ?_)
  · obtain ⟨_, _, _, _, rfl, _⟩ := h; rfl
  obtain ⟨n, r, rows, ps, rfl, n1, n2, tr, hp, q, qe⟩ := h
  have nd := sc_laid.nd
  refine ⟨_, (pss_cons (ps_setcomp (cap := []) (tgs := ["prime", "power"]) (i := 2) nd rfl (Or.inl rfl) rfl rfl rfl (by decide +kernel) (by decide +kernel) (free_ok (by rfl)) sub_nil cap_nil (leaves_tup2 (by decide) (by decide)) (pi_list (pe_def D_parts (hr.mono (by decide)) (by rfl) (pa_cons (pv 0) pa_nil))) (fun C s H fp => ⟨(pg_tup rfl (pgs_cons (pg_name (i := 0) (show (["prime", "power"] : List Str).Nodup by decide +kernel) rfl (Or.inl rfl) (Or.inr rfl)) (pgs_cons (pg_name (i := 1) (show (["prime", "power"] : List Str).Nodup by decide +kernel) rfl (Or.inl rfl) (Or.inr rfl)) pgs_nil))), pts_nil, (pv 0)⟩)) (pss_cons (ps_set (i := 3) nd rfl (Or.inl rfl) (pe_op op_rep (pe_lst (pa_cons pe_int pa_nil)) (pv 0))) (pss_cons (ps_for passes_own rfl (pi_list (pv 1)) (pg_tup rfl (pgs_cons (pg_name (i := 4) nd rfl (Or.inl rfl)) (pgs_cons (pg_name (i := 5) nd rfl (Or.inl rfl)) (pgs_cons (pg_name (i := 6) nd rfl (Or.inl rfl)) pgs_nil)))) (pss_cons (ps_if (pt_cmpR op_notIn_seq (pv 4) (pv 2) (by rfl)) (pss_one (ps_raise rfl rfl raise_ok T.c_NoRing T.x_NoRing PySem.F.excBase_ValueError (by rfl) (pa_cons pe_str pa_nil))) pss_nil) (pss_one (ps_expr (pe_def D_lay_ring (hr.mono (by decide)) (by rfl) (pa_cons (pv 3) (pa_cons (pv 4) (pa_cons (pv 5) (pa_cons (pv 6) pa_nil))))))))) (pss_one (ps_ret (pv 3)))))), ?_⟩
  refine ⟨_, rfl, _, rfl, by omega, by omega, fun r1 H1 ps' sm1 _ pa hp' => ?_⟩
  have e := Pt.parts_one hp' hp
  subst e
  obtain ⟨as, hl, pr⟩ := pa
  have al := Paired.length pr
  have lp : (ps'.length : Int) ≤ n := Rs.len_parts hp
  refine ⟨r1, rfl, ⟨_, SqL.of hl⟩, ?_⟩
  refine comp_list (K := K) (xs := as.map V.ref) (fun i ys H2 => H2 = H1 ∧ ys = ((ps'.take i).map Prod.fst).map V.int) ⟨rfl, by simp⟩ (fun i ys H2 _ z => by rw [z.1]; exact SqL.of hl)
    (fun i ys H2 hi z => by rw [List.length_map] at hi; rw [z.2]; simp only [List.length_map, List.length_take]; exact size1 (by omega)) ?_ ?_
  · rintro i x ys H2 hx ⟨rfl, rfl⟩
    obtain ⟨a, rfl, ea⟩ := ref_at hx
    obtain ⟨⟨p, z⟩, ep, ha⟩ := paired_get pr ea
    refine ⟨a, _, rfl, SqT.of ha, rfl, _, _, rfl, _, _, rfl, rfl, ?_⟩
    refine ⟨_, rfl, rfl, ?_⟩
    rw [Pt.take_snoc ep, List.map_append, List.map_append]; rfl
  rintro ys H2 ⟨rfl, rfl⟩ pm hpm
  have et : ps'.take (as.map V.ref).length = ps' := by rw [List.length_map, al, List.take_length]
  rw [et]
  have sm2 : Same H (upd H2 pm (.lst ((ps'.map Prod.fst).map V.int))) := same_new sm1 hpm
  have hpm2 : upd H2 pm (.lst ((ps'.map Prod.fst).map V.int)) pm = some (.lst ((ps'.map Prod.fst).map V.int)) := upd_same
  generalize upd H2 pm (.lst ((ps'.map Prod.fst).map V.int)) = H3 at sm2 hpm2 ⊢
  refine ⟨(by show 1 ≤ sizeLine; decide), fun l hl => ⟨_, rfl, l, _, _, rfl, rfl, upd_same, by omega, by omega, (by show 1 * _ ≤ _; exact size2 (by omega)), fun du hdu => ?_⟩⟩
  rw [rep0]
  have ldu : l ≠ du := ne_of_none upd_same hdu
  have du0 : H3 du = none := by rwa [upd_ne (Ne.symm ldu)] at hdu
  have sm0 : Same H3 (upd (upd H3 l (.lst [V.int 0])) du (.lst ((List.replicate n (0 : Int)).map V.int))) := same_upd (same_upd (Same.refl H3) hl) du0
  have hd0 : upd (upd H3 l (.lst [V.int 0])) du (.lst ((List.replicate n (0 : Int)).map V.int)) du = some (.lst ((List.replicate n (0 : Int)).map V.int)) := upd_same
  generalize upd (upd H3 l (.lst [V.int 0])) du (.lst ((List.replicate n (0 : Int)).map V.int)) = H0 at sm0 hd0 ⊢
  obtain ⟨rs, hrs, prs⟩ := tr
  have rl := Paired.length prs
  refine ⟨_, rfl, r, rfl, ⟨_, (sm2.trans sm0).seq (SqL.of (K := K) hrs)⟩, ?_⟩
  refine for_list (xs := rs.map V.ref) (fun i σ H4 => Same H3 H4 ∧ (∀ x ∈ rows.take i, x.1 ∈ ps'.map Prod.fst) ∧ ∃ (b : List Int) (o1 o2 o3 : Option V), σ = [some (.int n), some (.ref r), some (.ref pm), some (.ref du), o1, o2, o3] ∧ H4 du = some (.lst (b.map V.int)) ∧ b.length = n ∧ ∀ x, Ld.at' b x = Rg.rvs n (rows.take i) x)
    ⟨sm0, (by simp), List.replicate n 0, none, none, none, rfl, hd0, by simp, fun x => by rw [Ld.at_rep]; rfl⟩ (fun i σ H4 _ z => (sm2.trans z.1).seq (SqL.of hrs)) ?_ ?_
  · rintro i x σ H4 hx ⟨sm4, al4, b, o1, o2, o3, rfl, hb, lb, inv⟩
    obtain ⟨a, rfl, ea⟩ := ref_at hx
    obtain ⟨⟨p, hole, many⟩, ep, ha⟩ := paired_get prs ea
    have ha4 := sm4 _ _ (sm2 _ _ ha)
    refine ⟨a, _, rfl, SqT.of ha4, rfl, _, _, rfl, _, _, rfl, _, _, rfl, rfl, ?_⟩
    refine ⟨_, rfl, _, rfl, pm, _, rfl, .inl (SqL.of (sm4 _ _ hpm2)), rfl, flat_ints _, _, rfl, ?_⟩
    rw [inV_ints]
    by_cases c : p ∈ ps'.map Prod.fst
    · rw [decide_eq_true c]
      refine iteF ?_
      obtain ⟨y, hy, ey⟩ := List.mem_map.mp c
      have row := hp.row y hy
      have pd : p ∣ (n : Int) := by rw [← ey]; exact ((Pt.part_iff hp y).mp hy).2.1
      have p2 : 2 ≤ p := by rw [← ey]; exact row.pr.1
      refine ⟨_, rfl, _, rfl, _, rfl, _, rfl, du, b, n, p, hole, many, rfl, hb, lb, n1, n2, p2, pd, fun H5 b' kp hb' lb' inv' => ?_⟩
      refine ⟨fun c o h => kp c o (fun z => by rw [z, du0] at h; cases h) (sm4 c o h), fun x hx => ?_, b', _, _, _, rfl, hb', lb', fun x => ?_⟩
      · rw [Pt.take_snoc ep] at hx
        rcases List.mem_append.mp hx with z | z
        · exact al4 x z
        · rw [List.mem_singleton.mp z]; exact c
      · rw [inv', inv, Pt.take_snoc ep, Rg.rvs_snoc]
    · rw [decide_eq_false c]
      refine iteT ?_
      exact ⟨by decide, qe ⟨_, List.mem_of_getElem? ep, c⟩ _ (sm2.trans sm4)⟩
  · rintro σ H4 ⟨sm4, al4, b, o1, o2, o3, rfl, hb, lb, inv⟩
    rw [List.length_map, rl, List.take_length] at inv al4
    exact ⟨_, rfl, q al4 du H4 b (sm2.trans sm4) (sm2.free du0) hb lb inv⟩

def spFit (K : PySem.W.Frag) : Sp := fun vs H Q _ => ∃ (a b : Addr) (xs ys : List V), vs = [.ref a, .ref b] ∧ SqL K H a xs ∧ SqL K H b ys ∧ xs.length = ys.length ∧ Q .non H
theorem ok_check_fit (T : Txt K mg C_NoRing) : Df P w K mg base 1 "check_fit" ["one", "other"] (spFit K) := by
  refine T.d_check_fit.ok sc_check_fit (fun vs H Q E h => ?_) (fun f cdv A outer s H vs Q E hr h => ?_)
  · obtain ⟨_, _, _, _, rfl, _⟩ := h; rfl
  obtain ⟨a, b, xs, ys, rfl, ha, hb, e, q⟩ := h
  have nd := sc_check_fit.nd
  refine ⟨_, (pss_one (ps_if (pt_cmpR op_ne (pe_callB call_len_seq (by rfl) T.b_len L2.bi_len (pa_cons (pv 0) pa_nil)) (pe_callB call_len_seq (by rfl) T.b_len L2.bi_len (pa_cons (pv 1) pa_nil)) (nomark _)) (pss_one ps_never) pss_nil)), ?_⟩
  refine ⟨_, rfl, a, _, rfl, .inl ha, _, rfl, b, _, rfl, .inl hb, rfl, _, rfl, ?_⟩
  refine ite2 (fun c => ?_) (fun c => q)
  exact vne c (by rw [e])

def Rws (n : Nat) (ps : List (Int × Int)) (rows : List (Int × Int × Int)) : Prop := rows.length ≤ 62 ∧ ∀ x ∈ rows, x.1 ∈ ps.map Prod.fst ∧ 0 ≤ x.2.1 ∧ x.2.1 < n ∧ x.2.2.natAbs < 2 ^ 200
def spRings (K : PySem.W.Frag) : Sp := fun vs H Q _ => ∃ (a : Addr) (ns : List Int) (n : Nat) (kd ks : Int), vs = [.ref a, .int n, .int kd, .int ks] ∧ SqL K H a (ns.map V.int) ∧ ns.length ≤ 63 ∧ 1 ≤ n ∧ n ≤ 420 ∧ 1 ≤ ks ∧ ks ≤ 10 ∧
  ∀ ro H' rows ps, Same H H' → H ro = none → TrAt H' ro rows → Pt.Parts n ps → Rws n ps rows → Q (.ref ro) H'
theorem ok_law_rings (T : Txt K mg C_NoRing) : Df P w K mg base 2 "_law_rings" ["script", "n", "kind", "kinds"] (spRings K) := by
  have D_law_primes := ok_law_primes (P := P) (w := w) (base := base) T
  have D_law_number := ok_law_number (P := P) (w := w) (base := base) T
  refine T.d_law_rings.ok sc_law_rings (fun vs H Q E h => ?_) (fun f cdv A outer s H vs Q E hr h => ?_)
  · obtain ⟨_, _, _, _, _, rfl, _⟩ := h; rfl
  obtain ⟨a, ns, n, kd, ks, rfl, hS, h63, n1, n2, k1, k2, q⟩ := h
  have nd := sc_law_rings.nd
  refine ⟨_, (pss_cons (ps_set (i := 4) nd rfl (Or.inl rfl) (pe_def D_law_primes (hr.mono (by decide)) (by rfl) (pa_cons (pv 1) pa_nil))) (pss_cons (ps_set (i := 5) nd rfl (Or.inl rfl) (pe_lst pa_nil)) (pss_mid (ps_if (pt_cmpR op_gt (pv 1) pe_int (nomark _)) (pss_one (ps_for PassesOwn.never rfl (pi_range2 (by rfl) T.b_range (pa_cons pe_int (pa_cons (pe_callB (call_min2 rfl) (by rfl) T.b_min L2.bi_min (pa_cons (pe_callB call_len_seq (by rfl) T.b_len L2.bi_len (pa_cons (pv 0) pa_nil)) (pa_cons pe_int pa_nil))) pa_nil))) (pg_name (i := 6) nd rfl (Or.inl rfl)) (pss_one (ps_if (pt_cmpR op_eq (pe_op op_mod (pv 6) (pv 3)) (pv 2) (nomark _)) (pss_cons (ps_set (i := 7) nd rfl (Or.inl rfl) (pe_ix ix_list (pv 0) (pv 6) (fun _ _ => rfl))) (pss_cons (ps_set (i := 8) nd rfl (Or.inl rfl) (pe_ix ix_list (pv 4) (pe_op op_mod (pe_op op_add (pe_op op_fdivB (pv 7) pe_int) (pe_op op_fdivB (pv 6) (pv 3))) (pe_callB call_len_seq (by rfl) T.b_len L2.bi_len (pa_cons (pv 4) pa_nil))) (fun _ _ => rfl))) (pss_one (ps_expr (pe_bm PySem.F.plainAttrs_list PySem.F.slot_list_append PySem.F.type_list_append mt_append (pv 5) (pa_cons (pe_tup (pa_cons (pv 8) (pa_cons (pe_op op_mod (pe_op op_add (pe_op op_fdivB (pv 7) pe_int) (pe_op op_fdivB (pv 6) (pv 3))) (pv 1)) (pa_cons (pe_def D_law_number (hr.mono (by decide)) (by rfl) (pa_cons (pv 7) pa_nil)) pa_nil)))) pa_nil)))))) pss_nil)))) pss_nil) (pss_one (ps_ret (pv 5)))))), ?_⟩
  refine ⟨_, rfl, n, rfl, n1, n2, fun r1 H1 ps sm1 f1 h1 hp => ?_⟩
  refine ⟨Nat.zero_le _, fun ro hro => ?_⟩
  have nr : r1 ≠ ro := ne_of_none h1 hro
  have ro0 : H ro = none := sm1.free hro
  have sm0 : Same H1 (upd H1 ro (.lst [])) := same_new (Same.refl _) hro
  have hr0 : upd H1 ro (.lst []) ro = some (.lst []) := upd_same
  have h10 := sm0 _ _ h1
  have smA := sm1.trans sm0
  generalize upd H1 ro (.lst []) = H0 at sm0 hr0 h10 smA ⊢
  have few := Rt.few_parts hp n2
  have plen : ((ps.map Prod.fst).map V.int).length = ps.length := by rw [List.length_map, List.length_map]
  refine ⟨fun σ H' => ∃ (rows : List (Int × Int × Int)) (o1 o2 o3 : Option V), σ = [some (.ref a), some (.int n), some (.int kd), some (.int ks), some (.ref r1), some (.ref ro), o1, o2, o3] ∧ Same H H' ∧ TrAt H' ro rows ∧ Rws n ps rows, ?_, ?_⟩
  · refine ⟨_, rfl, _, _, rfl, rfl, _, rfl, ?_⟩
    refine ite2 (fun c => ?_) (fun c => ⟨[], none, none, none, rfl, smA, ⟨[], hr0, .nil⟩, by simp, by simp⟩)
    have nn := dec c
    have pne : 0 < ps.length := by
      rcases Nat.eq_zero_or_pos ps.length with z | z
      · have : ps = [] := List.length_eq_zero_iff.mp z
        rw [this] at hp
        have := hp.prd
        simp only [Pt.Prd] at this
        omega
      · exact z
    refine ⟨_, rfl, a, _, rfl, .inl (smA.seq hS), _, _, rfl, _, _, rfl, ?_⟩
    rw [List.length_map]
    generalize hz : (if (62 : Int) < (ns.length : Int) then (62 : Int) else (ns.length : Int)) = z
    have z1 : 0 ≤ z ∧ z ≤ 62 ∧ z ≤ ns.length := by rw [← hz]; split <;> omega
    refine ⟨⟨by omega, by omega, by omega, by omega⟩, ?_⟩
    refine for_range (fun i σ H2 => (∀ c o, c ≠ ro → H0 c = some o → H2 c = some o) ∧ ∃ (rows : List (Int × Int × Int)) (o1 o2 o3 : Option V), σ = [some (.ref a), some (.int n), some (.int kd), some (.int ks), some (.ref r1), some (.ref ro), o1, o2, o3] ∧ TrAt H2 ro rows ∧ rows.length ≤ i ∧ ∀ x ∈ rows, x.1 ∈ ps.map Prod.fst ∧ 0 ≤ x.2.1 ∧ x.2.1 < n ∧ x.2.2.natAbs < 2 ^ 200)
      ⟨fun _ _ _ h => h, [], none, none, none, rfl, ⟨[], hr0, .nil⟩, by simp, by simp⟩ ?_ ?_
    · rintro i σ H2 hi ⟨kp, rows, o1, o2, o3, rfl, tr, rl, rok⟩
      have smH : Same H H2 := fun c o h => kp c o (fun z => by rw [z, ro0] at h; cases h) (smA _ _ h)
      refine ⟨_, rfl, _, rfl, _, _, rfl, rfl, by omega, _, rfl, rfl, _, rfl, ?_⟩
      refine ite2 (fun c => ?_) (fun c => ⟨kp, rows, _, _, _, rfl, tr, by omega, rok⟩)
      obtain ⟨v, hv, _⟩ := atI_in (ns := ns) (k := 2 + (i : Int)) (by omega) (by omega)
      have h12 := kp _ _ nr h10
      refine ⟨_, rfl, _, rfl, a, _, _, _, rfl, rfl, smH.seq hS, hv, ?_⟩
      have at1 := atI_mod (a := ps.map Prod.fst) (n := ps.length) (by rw [List.length_map]) pne (v / 7 + (2 + (i : Int)) / ks)
      have pm := Ld.at_mem (a := ps.map Prod.fst) (by rw [List.length_map]; exact pne) (v / 7 + (2 + (i : Int)) / ks)
      refine ⟨_, rfl, _, rfl, _, _, rfl, rfl, div_small (by decide) (by decide), _, rfl, _, rfl, _, _, rfl, rfl, div_small (by omega) (by omega), _, _, rfl, rfl, _, rfl, r1, _, rfl, .inl (SqL.of h12), _, _, rfl, rfl, by rw [plen]; omega, r1, _, _, _, rfl, rfl, SqL.of h12, by rw [plen]; exact at1, ?_⟩
      generalize Ld.at' (ps.map Prod.fst) (v / 7 + (2 + (i : Int)) / ks) = p at pm
      obtain ⟨rs, hrs, prs⟩ := id tr
      have rsl := Paired.length prs
      refine ⟨_, rfl, .inl ⟨rfl, _, SqL.of hrs⟩, _, rfl, _, rfl, _, _, rfl, rfl, div_small (by decide) (by decide), _, rfl, _, rfl, _, _, rfl, rfl, div_small (by omega) (by omega), _, _, rfl, rfl, _, rfl, _, _, rfl, rfl, (show (0 : Int) < (n : Int) by omega), _, rfl, v, rfl, fun wv hw => ⟨(by show 3 ≤ sizeLine; decide), fun t ht => ?_⟩⟩
      have hl0 := Int.emod_nonneg (v / 53 + (2 + (i : Int)) / ks) (show (n : Int) ≠ 0 by omega)
      have hl1 := Int.emod_lt_of_pos (v / 53 + (2 + (i : Int)) / ks) (show 0 < (n : Int) by omega)
      dsimp only at ht ⊢
      generalize (v / 53 + (2 + (i : Int)) / ks) % n = hole at hl0 hl1 ht ⊢
      have hr3 : upd H2 t (.tup [V.int p, V.int hole, V.int wv]) ro = some (.lst (rs.map V.ref)) := (upd_ne (ne_of_none hrs ht)).trans hrs
      have rot : ro ≠ t := ne_of_none hrs ht
      refine ⟨ro, _, _, rfl, rfl, hr3, by rw [List.length_map, rsl]; exact size1 (by omega), ?_⟩
      refine ⟨fun c o ne h => ((upd_ne ne).trans (upd_ne (ne_of_none (kp c o ne h) ht))).trans (kp c o ne h), rows ++ [(p, hole, wv)], _, _, _, rfl, ⟨rs ++ [t], by rw [upd_same, List.map_append]; rfl, ?_⟩, by simp; omega, fun x hx => ?_⟩
      · refine Paired.snoc (Paired.mapP prs fun d x e => ?_) ((upd_ne (Ne.symm rot)).trans upd_same)
        exact ((upd_ne (ne_of e hrs (fun z => by cases z))).trans (upd_ne (ne_of_none e ht))).trans e
      · rcases List.mem_append.mp hx with w | w
        · exact rok x w
        · rw [List.mem_singleton.mp w]; exact ⟨pm, hl0, hl1, hw⟩
    · rintro σ H2 ⟨kp, rows, o1, o2, o3, rfl, tr, rl, rok⟩
      exact ⟨rows, _, _, _, rfl, fun c o h => kp c o (fun z => by rw [z, ro0] at h; cases h) (smA _ _ h), tr, by omega, rok⟩
  rintro σ H' ⟨rows, o1, o2, o3, rfl, sm, tr, rok⟩
  exact ⟨_, rfl, q ro H' rows ps sm ro0 tr hp rok⟩

def spLaidN : Sp := fun vs H Q _ => ∃ (r : Addr) (n : Nat) (rows : List (Int × Int × Int)) (ps : List (Int × Int)), vs = [.int n, .ref r] ∧ 1 ≤ n ∧ n ≤ 420 ∧ TrAt H r rows ∧ Pt.Parts n ps ∧ Rws n ps rows ∧
  ∀ t H' b, Same H H' → H t = none → H' t = some (.lst (b.map V.int)) → b.length = n → Ld.Bd (2 ^ 206) b → (∀ x, Ld.at' b x = Rg.rvs n rows x) → Q (.ref t) H'
theorem rv_bd {n : Int} {t : Int × Int × Int} (h : t.2.2.natAbs < 2 ^ 200) (x : Int) : (Rg.rv n t x).natAbs ≤ 2 ^ 200 := by unfold Rg.rv; split <;> omega
theorem rvs_bd {n : Int} : ∀ {rows : List (Int × Int × Int)}, (∀ t ∈ rows, t.2.2.natAbs < 2 ^ 200) → ∀ x, (Rg.rvs n rows x).natAbs ≤ rows.length * 2 ^ 200
  | [], _, x => by simp [Rg.rvs]
  | t :: r, h, x => by
    have a := rv_bd (n := n) (h t List.mem_cons_self) x
    have b := rvs_bd (n := n) (rows := r) (fun y hy => h y (List.mem_cons_of_mem _ hy)) x
    have e : Rg.rvs n (t :: r) x = Rg.rv n t x + Rg.rvs n r x := by unfold Rg.rvs; rw [List.map_cons, List.sum_cons]
    rw [e, List.length_cons, Nat.succ_mul]
    omega
theorem ok_law_laid (T : Txt K mg C_NoRing) : Df P w K mg base 1 "_law_laid" ["n", "rows"] spLaidN := by
  refine T.d_law_laid.ok sc_law_laid (fun vs H Q E h => ?_) (fun f cdv A outer s H vs Q E hr h => ?_)
  · obtain ⟨_, _, _, _, rfl, _⟩ := h; rfl
  obtain ⟨r, n, rows, ps, rfl, n1, n2, tr, hp, rok, q⟩ := h
  have nd := sc_law_laid.nd
  refine ⟨_, (pss_cons (ps_set (i := 2) nd rfl (Or.inl rfl) (pe_op op_rep (pe_lst (pa_cons pe_int pa_nil)) (pv 0))) (pss_cons (ps_for PassesOwn.never rfl (pi_list (pv 1)) (pg_tup rfl (pgs_cons (pg_name (i := 3) nd rfl (Or.inl rfl)) (pgs_cons (pg_name (i := 4) nd rfl (Or.inl rfl)) (pgs_cons (pg_name (i := 5) nd rfl (Or.inl rfl)) pgs_nil)))) (pss_one (ps_for PassesOwn.never rfl (pi_range1 (by rfl) T.b_range (pa_cons (pv 3) pa_nil)) (pg_name (i := 6) nd rfl (Or.inl rfl)) (pss_cons (ps_set (i := 7) nd rfl (Or.inl rfl) (pe_op op_mod (pe_op op_add (pv 4) (pe_op op_mulB (pv 6) (pe_op op_fdivB (pv 0) (pv 3)))) (pv 0))) (pss_one (ps_asg (pe_op op_add (pe_ix ix_list (pv 2) (pv 7) (fun _ _ => rfl)) (pv 5)) (pg_sub (pv 2) (pv 7) set_list))))))) (pss_one (ps_ret (pv 2))))), ?_⟩
  refine ⟨(by show 1 ≤ sizeLine; decide), fun l hl => ⟨_, rfl, l, _, _, rfl, rfl, upd_same, by omega, by omega, (by show 1 * _ ≤ _; exact size2 (by omega)), fun du hdu => ?_⟩⟩
  rw [rep0]
  have ldu : l ≠ du := ne_of_none upd_same hdu
  have du0 : H du = none := by rwa [upd_ne (Ne.symm ldu)] at hdu
  have sm0 : Same H (upd (upd H l (.lst [V.int 0])) du (.lst ((List.replicate n (0 : Int)).map V.int))) := same_upd (same_upd (Same.refl H) hl) du0
  have hd0 : upd (upd H l (.lst [V.int 0])) du (.lst ((List.replicate n (0 : Int)).map V.int)) du = some (.lst ((List.replicate n (0 : Int)).map V.int)) := upd_same
  generalize upd (upd H l (.lst [V.int 0])) du (.lst ((List.replicate n (0 : Int)).map V.int)) = H0 at sm0 hd0 ⊢
  obtain ⟨rs, hrs, prs⟩ := tr
  have rl := Paired.length prs
  refine ⟨_, rfl, r, rfl, ⟨_, sm0.seq (SqL.of (K := K) hrs)⟩, ?_⟩
  refine for_list (xs := rs.map V.ref) (fun i σ H4 => Same H H4 ∧ ∃ (b : List Int) (o1 o2 o3 o4 o5 : Option V), σ = [some (.int n), some (.ref r), some (.ref du), o1, o2, o3, o4, o5] ∧ H4 du = some (.lst (b.map V.int)) ∧ b.length = n ∧ ∀ x, Ld.at' b x = Rg.rvs n (rows.take i) x)
    ⟨sm0, List.replicate n 0, none, none, none, none, none, rfl, hd0, by simp, fun x => by rw [List.take_zero, Ld.at_rep]; unfold Rg.rvs; simp⟩ (fun i σ H4 _ z => z.1.seq (SqL.of hrs)) ?_ ?_
  · rintro i x σ H4 hx ⟨sm4, b, o1, o2, o3, o4, o5, rfl, hb, lb, inv⟩
    obtain ⟨ad, rfl, ea⟩ := ref_at hx
    obtain ⟨⟨p, hole, many⟩, ep, ha⟩ := paired_get prs ea
    obtain ⟨c, h0, hn, _⟩ := rok.2 _ (List.mem_of_getElem? ep)
    dsimp only at c h0 hn
    obtain ⟨y, hy, ey⟩ := List.mem_map.mp c
    have pd : p ∣ (n : Int) := by rw [← ey]; exact ((Pt.part_iff hp y).mp hy).2.1
    have p2 : 2 ≤ p := by rw [← ey]; exact (hp.row y hy).pr.1
    have pn := Int.le_of_dvd (by omega) pd
    obtain ⟨st, est, st0, enp, _⟩ := Rg.step_of n1 p2 pd
    refine ⟨ad, _, rfl, SqT.of (sm4 _ _ ha), rfl, _, _, rfl, _, _, rfl, _, _, rfl, rfl, ?_⟩
    refine ⟨_, rfl, _, rfl, by omega, by omega, ?_⟩
    refine for_range0 (fun k σ H5 => Same H H5 ∧ ∃ (b' : List Int) (o4 o5 : Option V), σ = [some (.int n), some (.ref r), some (.ref du), some (.int p), some (.int hole), some (.int many), o4, o5] ∧ H5 du = some (.lst (b'.map V.int)) ∧ b'.length = n ∧
        ∀ x : Int, Ld.at' b' x = Ld.at' b x + (if (x - hole) % st = 0 ∧ ((x - hole) % n) / st < (k : Int) then many else 0))
      ⟨sm4, b, _, _, rfl, hb, lb, Rg.own0 (by omega) st0 hole many b⟩ ?_ ?_
    · rintro k σ H5 hk ⟨sm5, b', o4, o5, rfl, hb', lb', inv'⟩
      have kp : (k : Int) < p := by omega
      refine ⟨_, rfl, _, rfl, _, rfl, _, rfl, _, _, rfl, rfl, div_small (by omega) (by omega), _, _, rfl, rfl, mul_small (by omega) (by omega), _, _, rfl, rfl, _, rfl, _, _, rfl, rfl, (show (0 : Int) < n by omega), ?_⟩
      dsimp only
      rw [est]
      refine ⟨_, rfl, _, rfl, du, _, _, _, rfl, rfl, SqL.of hb', atI_mod lb' (by omega) _, _, rfl, _, _, rfl, rfl, _, rfl, _, rfl, du, _, _, _, rfl, rfl, hb', ixN_mod (mlen lb') (by omega) _, ?_⟩
      rw [set_int]
      exact ⟨same_upd sm5 du0, _, _, _, rfl, upd_same, by rw [List.length_set, lb'], Rg.own1 st0 enp (by omega) lb' inv'⟩
    · rintro σ H5 ⟨sm5, b', o4, o5, rfl, hb', lb', inv'⟩
      refine ⟨sm5, b', _, _, _, _, _, rfl, hb', lb', fun x => ?_⟩
      rw [Rg.own2 st0 (show 0 < p.toNat by omega) enp inv', inv, Pt.take_snoc ep, Rg.rvs_snoc]
      unfold Rg.rv
      rw [est]
  · rintro σ H4 ⟨sm4, b, o1, o2, o3, o4, o5, rfl, hb, lb, inv⟩
    rw [List.length_map, rl, List.take_length] at inv
    refine ⟨_, rfl, q du H4 b sm4 du0 hb lb (Ld.bd_of fun k _ => ?_) inv⟩
    rw [inv]
    have := rvs_bd (n := n) (fun t ht => (rok.2 t ht).2.2.2) k
    have e : rows.length * 2 ^ 200 ≤ 62 * 2 ^ 200 := Nat.mul_le_mul_right _ rok.1
    exact Nat.le_trans this (Nat.le_trans e (by decide +kernel))

def spWeighed (K : PySem.W.Frag) : Sp := fun vs H Q _ => ∃ (r s : Addr) (a b : List Int) (n : Nat), vs = [.ref r, .ref s] ∧ SqL K H r (a.map V.int) ∧ SqL K H s (b.map V.int) ∧ a.length = n ∧ b.length = n ∧ n ≤ 420 ∧ (∀ i : Nat, i < n → IntMulOk (Ld.at' a i) (Ld.at' b i)) ∧
  ∀ H', Same H H' → Q (.int (Ld.S n fun k => Ld.at' a k * Ld.at' b k)) H'
theorem ok_weighed (T : Txt K mg C_NoRing) : Df P w K mg base 2 "weighed" ["load", "weights"] (spWeighed K) := by
  have D_check_fit := ok_check_fit (P := P) (w := w) (base := base) T
  refine T.d_weighed.ok sc_weighed (fun vs H Q E h => ?_) (fun f cdv A outer s H vs Q E hr h => ?_)
  · obtain ⟨_, _, _, _, _, rfl, _⟩ := h; rfl
  obtain ⟨r, s', a, b, n, rfl, ha, hb, la, lb, n2, mo, q⟩ := h
  have nd := sc_weighed.nd
  refine ⟨_, (pss_cons (ps_expr (pe_def D_check_fit (hr.mono (by decide)) (by rfl) (pa_cons (pv 0) (pa_cons (pv 1) pa_nil)))) (pss_one (ps_ret (pe_callB (call_sumL rfl) (by rfl) T.b_sum L2.bi_sum (pa_cons (pe_listcomp (cap := []) (tgs := ["weight", "number"])  rfl rfl rfl (by decide +kernel) (by decide +kernel) (free_ok (by rfl)) sub_nil cap_nil (leaves_tup2 (by decide) (by decide)) (pi_zip (by rfl) T.b_zip (pa_cons (pv 0) (pa_cons (pv 1) pa_nil))) (fun C s H fp => ⟨(pg_tup rfl (pgs_cons (pg_name (i := 0) (show (["weight", "number"] : List Str).Nodup by decide +kernel) rfl (Or.inl rfl) (Or.inr rfl)) (pgs_cons (pg_name (i := 1) (show (["weight", "number"] : List Str).Nodup by decide +kernel) rfl (Or.inl rfl) (Or.inr rfl)) pgs_nil))), pts_nil, (pe_op op_mulB (pv 0) (pv 1))⟩)) pa_nil))))), ?_⟩
  refine ⟨_, rfl, _, rfl, r, s', _, _, rfl, ha, hb, by rw [List.length_map, List.length_map, la, lb], ?_⟩
  refine ⟨_, rfl, _, rfl, r, s', rfl, ⟨_, ha⟩, ⟨_, hb⟩, ?_⟩
  refine comp_zip (K := K) (xs := a.map V.int) (ys := b.map V.int) (by rw [List.length_map, List.length_map, la, lb]) (fun i rs H2 => Same H H2 ∧ rs = ((List.range i).map fun (k : Nat) => Ld.at' a k * Ld.at' b k).map V.int) ⟨Same.refl H, rfl⟩ (fun i rs H2 _ z => ⟨z.1.seq ha, z.1.seq hb⟩)
    (fun i rs H2 hi z => by rw [List.length_map] at hi; rw [z.2]; simp only [List.length_map, List.length_range]; exact size1 (by omega)) ?_ ?_
  · rintro i x y rs H2 p hx hy ⟨sm, rfl⟩ hp
    obtain ⟨u, rfl, hu⟩ := int_at hx
    obtain ⟨v, rfl, hv⟩ := int_at hy
    have eu : Ld.at' a i = u := Ld.at_nat hu
    have ev : Ld.at' b i = v := Ld.at_nat hv
    have hi : i < n := by rw [← la]; exact (List.getElem?_eq_some_iff.mp hu).1
    refine ⟨p, _, rfl, SqT.of upd_same, rfl, _, _, rfl, _, _, rfl, rfl, ?_⟩
    have mo' := mo i hi
    rw [eu, ev] at mo'
    refine ⟨_, rfl, _, rfl, _, _, rfl, rfl, mo', ?_⟩
    refine ⟨same_new sm hp, ?_⟩
    rw [List.range_succ, List.map_append, List.map_append, List.map_singleton, List.map_singleton, eu, ev]
  · rintro rs H2 ⟨sm, rfl⟩ D hD
    rw [List.length_map, la]
    refine ⟨D, _, rfl, SqL.of upd_same, ?_⟩
    rw [Pl.S_sum (fun k => Ld.at' a k * Ld.at' b k)]
    exact q _ (same_new sm hD)

def spKeptL : Sp := fun vs H Q _ => ∃ (n : Nat) (ps : List (Int × Int)) (l : List ((Int × Int) × Int)), vs = [.int n] ∧ 1 ≤ n ∧ n ≤ 420 ∧ Rt.Ld' n ps l ∧ ∀ t H', Same H H' → H t = none → H' t = some (.lst ((Rt.kps n l).map V.int)) → Q (.ref t) H'
theorem ok_law_kept (T : Txt K mg C_NoRing) : Df P w K mg base 2 "_law_kept" ["n"] spKeptL := by
  have D_law_primes := ok_law_primes (P := P) (w := w) (base := base) T
  refine T.d_law_kept.ok sc_law_kept (fun vs H Q E h => ?_) (fun f cdv A outer s H vs Q E hr h => ?_)
  · obtain ⟨_, _, _, rfl, _⟩ := h; rfl
  obtain ⟨n, ps, l, rfl, n1, n2, lds, q⟩ := h
  have nd := sc_law_kept.nd
  refine ⟨_, (pss_cons (ps_set (i := 1) nd rfl (Or.inl rfl) (pe_lrng1 rfl (by rfl) T.b_list (by rfl) T.b_range (pa_cons (pv 0) pa_nil))) (pss_cons (ps_for PassesOwn.never rfl (pi_list (pe_def D_law_primes (hr.mono (by decide)) (by rfl) (pa_cons (pv 0) pa_nil))) (pg_name (i := 2) nd rfl (Or.inl rfl)) (pss_cons (ps_set (i := 3) nd rfl (Or.inr rfl) (pv 2)) (pss_cons (ps_while PassesOwn.never (pt_cmpR op_eq (pe_op op_mod (pv 0) (pe_op op_mulB (pv 3) (pv 2))) pe_int (nomark _)) (pss_one (ps_set (i := 3) nd rfl (Or.inr rfl) (pe_op op_mulB (pv 3) (pv 2))))) (pss_cons (ps_set (i := 4) nd rfl (Or.inr rfl) pe_dnewK) (pss_cons (ps_for PassesOwn.never rfl (pi_range2 (by rfl) T.b_range (pa_cons (pe_op op_sub (pv 3) (pe_op op_fdivB (pv 3) (pv 2))) (pa_cons (pv 3) pa_nil))) (pg_name (i := 5) nd rfl (Or.inl rfl)) (pss_one (ps_dput (hu1 hr) (pv 4) (pe_op op_mod (pe_op op_mulB (pv 5) (pe_op op_fdivB (pv 0) (pv 3))) (pv 3)) pe_bl (by rfl)))) (pss_one (ps_setcomp (cap := [("last", 4), ("q", 3)]) (tgs := ["k"]) (i := 1) nd rfl (Or.inl rfl) rfl rfl rfl (by decide +kernel) (by decide +kernel) (free_ok (by rfl)) (sub_cons rfl (sub_cons rfl sub_nil)) (cap_cons ⟨rfl, Or.inl rfl, Or.inl rfl, _, rfl⟩ (cap_cons ⟨rfl, Or.inl rfl, Or.inl rfl, _, rfl⟩ cap_nil)) (leaves_name (by decide)) (pi_list (pv 1)) (fun C s H fp => ⟨(pg_name (i := 2) (show (["last", "q", "k"] : List Str).Nodup by decide +kernel) rfl (Or.inl rfl) (Or.inr rfl)), (pts_one (pt_cmpR (op_dnotin (hu1 hr)) (pe_op op_mod (pv 2) (pv 1)) (pv 0) (by rfl))), (pv 2)⟩)))))))) (pss_one (ps_ret (pv 1))))), ?_⟩
  refine ⟨_, rfl, n, rfl, by omega, fun ho hho => ?_⟩
  have smA : Same H (upd H ho (.lst (((List.range n).map fun (i : Nat) => (i : Int)).map V.int))) := same_new (Same.refl _) hho
  have hA : upd H ho (.lst (((List.range n).map fun (i : Nat) => (i : Int)).map V.int)) ho = some (.lst (((List.range n).map fun (i : Nat) => (i : Int)).map V.int)) := upd_same


  generalize upd H ho (.lst (((List.range n).map fun (i : Nat) => (i : Int)).map V.int)) = HA at smA hA ⊢
  refine ⟨_, rfl, n, rfl, n1, n2, fun r1 H1 ps1 sm1 f1 h1 hp1 => ⟨r1, rfl, ⟨_, SqL.of h1⟩, ?_⟩⟩
  have epp := Pt.parts_one hp1 lds.hp
  subst epp
  have ll : l.length = ps1.length := by have := congrArg List.length lds.map; rwa [List.length_map] at this
  refine for_list (xs := (ps1.map Prod.fst).map V.int) (fun i σ H2 => Same H1 H2 ∧ ∃ (hl : Addr) (o1 o2 o3 o4 : Option V), σ = [some (.int n), some (.ref hl), o1, o2, o3, o4] ∧ H hl = none ∧ H2 hl = some (.lst ((Rt.kps n (l.take i)).map V.int)))
    ⟨Same.refl _, ho, none, none, none, none, rfl, hho, by rw [List.take_zero, Rt.kps_nil]; exact sm1 _ _ hA⟩ (fun i σ H2 _ z => z.1.seq (SqL.of h1)) ?_ ?_
  · rintro i xv σ H2 hx ⟨sm2, hl, o1, o2, o3, o4, rfl, fl, h2⟩
    obtain ⟨p, rfl, ep⟩ := int_at hx
    have ilt : i < ps1.length := by have := (List.getElem?_eq_some_iff.mp ep).1; rwa [List.length_map] at this
    have ex : ps1[i]? = some ps1[i] := List.getElem?_eq_getElem ilt
    have el : l[i]? = some (l[i]'(by omega)) := List.getElem?_eq_getElem (by omega)
    have e1 : ps1[i].1 = p := by rw [List.getElem?_map, ex] at ep; exact Option.some.inj ep
    have e2 : (l[i]'(by omega)).1 = ps1[i] := by
      have : (l.map Prod.fst)[i]? = some (l[i]'(by omega)).1 := by rw [List.getElem?_map, el]; rfl
      rw [lds.map, ex] at this
      exact (Option.some.inj this).symm
    have pcz := lds.pc (List.getElem_mem (show i < l.length by omega))
    have mem : ps1[i] ∈ ps1 := List.getElem_mem ilt
    have pi := (Pt.part_iff hp1 ps1[i]).mp mem
    have rw_ := Pt.row_le (hp1.row _ mem)
    have pn : ps1[i].2 ≤ n := by have := Pt.le_Prd ps1 hp1.row _ mem; rw [hp1.prd] at this; exact this
    have sm02 : Same H H2 := (smA.trans sm1).trans sm2
    generalize l[i]'(by omega) = zz at *
    generalize ps1[i] = x at *
    obtain ⟨z1, u⟩ := zz
    dsimp only at e2
    have e2' := e2.symm
    subst e2'
    subst e1
    dsimp only at pcz
    refine ⟨_, rfl, ?_⟩
    refine ⟨fun m σ H4 => H4 = H2 ∧ ∃ z : Int, σ = [some (.int n), some (.ref hl), some (.int x.1), some (.int z), o3, o4] ∧ Pt.IsPow x.1 z ∧ z ∣ n ∧ x.1 ≤ z ∧ m = (n + 1 - z).toNat,
      ⟨_, rfl, x.1, rfl, ⟨0, by rw [Pt.pow1]⟩, pi.2.1, Int.le_refl _, rfl⟩, ?_⟩
    rintro m σ H4 ⟨rfl, z, rfl, zp, zd, zx, rfl⟩
    have zn : z ≤ n := Int.le_of_dvd (by omega) zd
    have grow := Pt.q_grow rw_.1 (show 1 ≤ z by omega)
    refine ⟨_, rfl, _, rfl, _, rfl, _, _, rfl, rfl, mul_small (by omega) (by omega), _, _, rfl, rfl, (show 0 < z * x.1 by omega), rfl, _, rfl, ?_⟩
    refine ite2 (fun d => ?_) (fun d => ?_)
    · have dd := Int.dvd_of_emod_eq_zero (vint d)
      have dl := Int.le_of_dvd (by omega) dd
      refine ⟨_, fun _ _ h => h, ?_⟩
      refine ⟨_, rfl, _, rfl, _, _, rfl, rfl, mul_small (by omega) (by omega), ?_⟩
      refine ⟨(n + 1 - z * x.1).toNat, by omega, rfl, z * x.1, rfl, ?_, dd, by omega, rfl⟩
      obtain ⟨k, hk⟩ := zp
      exact ⟨k + 1, by rw [hk, Int.pow_succ x.1 (k + 1)]⟩
    · have nd' : ¬ z * x.1 ∣ n := fun y => nvint d (Int.emod_eq_zero_of_dvd y)
      have mem2 : (x.1, z) ∈ ps1 := (Pt.part_iff hp1 (x.1, z)).mpr ⟨pi.1, pi.2.1, zp, zd, nd'⟩
      have ezx : z = x.2 := congrArg Prod.snd (Rt.snd_one hp1 mem2 mem rfl)
      subst ezx
      obtain ⟨m, em, em', m1⟩ := pcz.m
      have mq : x.2 / x.1 ≤ x.2 := Int.ediv_le_self _ (by omega)
      refine fun da hda => ?_
      have nld : hl ≠ da := ne_of_none h2 hda
      have smD : Same H4 (upd H4 da (.dK [])) := same_new (Same.refl _) hda
      have hD0 : upd H4 da (.dK []) da = some (.dK []) := upd_same
      have da0 : H1 da = none := sm2.free hda
      have h2D := smD _ _ h2
      have sm1D := sm2.trans smD
      generalize upd H4 da (.dK []) = HD at smD hD0 h2D sm1D ⊢
      refine ⟨_, rfl, _, rfl, _, rfl, _, _, rfl, rfl, div_small (by omega) (by omega), _, _, rfl, rfl, _, rfl, x.2 - x.2 / x.1, x.2, rfl, ⟨by omega, by omega, by omega, by omega⟩, ?_⟩
      refine for_range (fun j σ H5 => (∀ c o, c ≠ da → HD c = some o → H5 c = some o) ∧ ∃ (kvs : List (Key × V)) (o4 : Option V), σ = [some (.int n), some (.ref hl), some (.int x.1), some (.int x.2), some (.ref da), o4] ∧ H5 da = some (.dK kvs) ∧ kvs.length ≤ j ∧ ∀ i : Int, (valV kvs (kI i)).isSome = true ↔ ∃ c : Nat, c < j ∧ (x.2 - x.2 / x.1 + (c : Int)) * ((n : Int) / x.2) % x.2 = i)
        ⟨fun _ _ _ h => h, [], _, rfl, hD0, by simp, fun i => ⟨fun h => (by cases h), fun ⟨c, hc, _⟩ => (by omega)⟩⟩ ?_ ?_
      · rintro j σ H5 hj ⟨kp, kvs, o4', rfl, h5, kl, kv⟩
        refine ⟨_, rfl, _, rfl, _, rfl, _, rfl, _, _, rfl, rfl, div_small (by omega) (by omega), _, _, rfl, rfl, mul_small (by omega) (by omega), _, rfl, _, _, rfl, rfl, (show 0 < x.2 by omega), da, _, rfl, DPut.i h5 (size1 (by omega)), ?_⟩
        refine ⟨fun c o ne h => (upd_ne ne).trans (kp c o ne h), _, _, rfl, upd_same, by have := length_putK kvs (kI ((x.2 - x.2 / x.1 + (j : Int)) * ((n : Int) / x.2) % x.2)) (.bl true); omega, fun i => ?_⟩
        rw [valV_put]
        by_cases c : kI i = kI ((x.2 - x.2 / x.1 + (j : Int)) * ((n : Int) / x.2) % x.2)
        · rw [if_pos c]
          refine ⟨fun _ => ⟨j, by omega, ?_⟩, fun _ => rfl⟩
          injection c with c; exact c.symm
        · rw [if_neg c, kv i]
          refine ⟨fun ⟨c', h1, h2⟩ => ⟨c', by omega, h2⟩, fun ⟨c', h1, h2⟩ => ⟨c', ?_, h2⟩⟩
          rcases Nat.lt_or_ge c' j with g | g
          · exact g
          · have : c' = j := by omega
            subst this
            exact absurd (congrArg kI h2.symm) c
      · rintro σ H5 ⟨kp, kvs, o4', rfl, h5, kl, kv⟩
        have hl5 := kp _ _ nld h2D
        have sm15 : Same H1 H5 := fun c o h => kp c o (fun z => by rw [z, da0] at h; cases h) (sm1D _ _ h)
        have test : ∀ k : Int, (valV kvs (kI (k % x.2))).isSome = true ↔ Rt.top x.1 x.2 u k = x.1 - 1 := fun k => by
          rw [kv, ← pcz.last_iff k]
          constructor
          · rintro ⟨c, hc, e⟩; exact ⟨x.2 - x.2 / x.1 + c, by omega, by omega, e⟩
          · rintro ⟨c, c0, c1, e⟩; exact ⟨(c - (x.2 - x.2 / x.1)).toNat, by omega, by rw [show x.2 - x.2 / x.1 + (((c - (x.2 - x.2 / x.1)).toNat : Nat) : Int) = c by omega]; exact e⟩
        refine ⟨_, rfl, hl, rfl, ⟨_, SqL.of hl5⟩, ?_⟩
        refine comp_list (K := K) (xs := (Rt.kps n (l.take i)).map V.int) (fun j ys H6 => H6 = H5 ∧ ys = (((Rt.kps n (l.take i)).take j).filter fun k => decide ¬ Rt.top x.1 x.2 u k = x.1 - 1).map V.int) ⟨rfl, by simp⟩ (fun j ys H6 _ z => by rw [z.1]; exact SqL.of hl5)
          (fun j ys H6 hj z => by
            rw [z.2, List.length_map]
            have a1 := List.length_filter_le (fun k => decide ¬ Rt.top x.1 x.2 u k = x.1 - 1) ((Rt.kps n (l.take i)).take j)
            have a2 := Rt.kps_len n (l.take i)
            rw [List.length_take] at a1
            exact size1 (by omega)) ?_ ?_
        · rintro j xv ys H6 hxj ⟨rfl, rfl⟩
          obtain ⟨k, rfl, ek⟩ := int_at hxj
          refine ⟨_, rfl, _, rfl, _, _, rfl, rfl, (show 0 < x.2 by omega), _, rfl, da, _, rfl, DGet.i h5, _, rfl, ?_⟩
          have tk := test k
          refine ite2 (fun c => ?_) (fun c => ?_)
          · have c' : ¬ Rt.top x.1 x.2 u k = x.1 - 1 := fun y => by rw [tk.mpr y] at c; cases c
            refine ⟨_, rfl, rfl, ?_⟩
            rw [Pt.take_snoc ek, List.filter_append, List.map_append]
            congr 1
            rw [List.filter_cons, if_pos (decide_eq_true c')]
            rfl
          · have c' : Rt.top x.1 x.2 u k = x.1 - 1 := tk.mp (by cases e : (valV kvs (kI (k % x.2))).isSome with | true => rfl | false => rw [e] at c; exact absurd rfl c)
            refine ⟨rfl, ?_⟩
            rw [Pt.take_snoc ek, List.filter_append, List.filter_cons, if_neg (by rw [decide_eq_true_iff]; exact fun y => y c'), List.filter_nil, List.append_nil]
        · rintro ys H6 ⟨rfl, rfl⟩ D hD
          rw [List.length_map, List.take_length]
          have fH6 : H D = none := sm02.free (smD.free (by
            by_cases e : D = da
            · rw [e, h5] at hD; cases hD
            · cases hh : HD D with
              | none => rfl
              | some o => rw [kp D o e hh] at hD; cases hD))
          refine ⟨same_new sm15 hD, D, _, _, _, _, rfl, fH6, ?_⟩
          rw [Rt.kps_take el]
          exact upd_same
  · rintro σ H2 ⟨sm2, hl, o1, o2, o3, o4, rfl, fl, h2⟩
    rw [List.length_map, List.length_map, ← ll, List.take_length] at h2
    exact ⟨_, rfl, q hl H2 ((smA.trans sm1).trans sm2) fl h2⟩
def spRWN : Sp := fun vs H Q _ => ∃ (r : Addr) (W : List Int) (n p st : Nat), vs = [.ref r, .int p] ∧ H r = some (.lst (W.map V.int)) ∧ W.length = n ∧ 1 ≤ n ∧ n ≤ 420 ∧ 0 < p ∧ 0 < st ∧ n = p * st ∧ ∀ b, (b = true ↔ ∀ s : Nat, s < st → Ld.S p (fun t => Ld.at' W ((s : Int) + t * st)) = 0) → ∀ H', Same H H' → Q (.bl b) H'
theorem ok_rings_weigh_nought (T : Txt K mg C_NoRing) : Df P w K mg base 1 "rings_weigh_nought" ["weights", "p"] spRWN := by
  refine T.d_rings_weigh_nought.ok sc_rings_weigh_nought (fun vs H Q E h => ?_) (fun f cdv A outer s H vs Q E hr h => ?_)
  · obtain ⟨_, _, _, _, _, rfl, _⟩ := h; rfl
  obtain ⟨r, W, n, p, st, rfl, hW, lW, n1, n2, p0, st0, en, q⟩ := h
  have nd := sc_rings_weigh_nought.nd
  have pn : p ≤ n := by rw [en]; exact Nat.le_mul_of_pos_right p st0
  have sn : st ≤ n := by rw [en]; exact Nat.le_mul_of_pos_left st p0
  have est : (n : Int) / p = st := by rw [en, Int.natCast_mul]; exact Int.mul_ediv_cancel_left _ (by omega)
  refine ⟨_, (pss_cons (ps_set (i := 2) nd rfl (Or.inr rfl) (pe_op op_fdivB (pe_callB call_len_seq (by rfl) T.b_len L2.bi_len (pa_cons (pv 0) pa_nil)) (pv 1))) (pss_one (ps_ret (pe_callB (call_allB rfl) (by rfl) T.b_all L2.bi_all (pa_cons (pe_listcomp (cap := [("weights", 0), ("step", 2)]) (tgs := ["hole"])  rfl rfl rfl (by decide +kernel) (by decide +kernel) (free_ok (by rfl)) (sub_cons rfl (sub_cons rfl sub_nil)) (cap_cons ⟨rfl, Or.inl rfl, Or.inl rfl, _, rfl⟩ (cap_cons ⟨rfl, Or.inl rfl, Or.inl rfl, _, rfl⟩ cap_nil)) (leaves_name (by decide)) (pi_range1 (by rfl) T.b_range (pa_cons (pv 2) pa_nil)) (fun C s H fp => ⟨(pg_name (i := 2) (show (["weights", "step", "hole"] : List Str).Nodup by decide +kernel) rfl (Or.inl rfl) (Or.inr rfl)), pts_nil, (pe_cmpR op_eq (pe_callB (call_sumLK (K := K) rfl rfl) (by rfl) T.b_sum L2.bi_sum (pa_cons (pe_sliceS (K := K) rfl (pv 0) (po_some (pv 2)) (po_some (pv 1))) pa_nil)) pe_int (nomark _))⟩)) pa_nil))))), ?_⟩
  refine ⟨_, rfl, r, _, rfl, .inl (SqL.of hW), _, rfl, _, _, rfl, rfl, div_small (by omega) (by omega), ?_⟩
  dsimp only
  rw [mlen lW, est]
  refine ⟨_, rfl, _, rfl, by omega, by omega, ?_⟩
  rw [Int.toNat_natCast]
  refine comp_range0 (fun i ys H2 => Same H H2 ∧ ys = ((List.range i).map fun (s : Nat) => decide (Ld.S p (fun t => Ld.at' W ((s : Int) + t * st)) = 0)).map V.bl) ⟨Same.refl _, rfl⟩ (fun i ys H2 hi z => by rw [z.2, List.length_map, List.length_map, List.length_range]; exact size1 (by omega)) ?_ ?_
  · rintro i ys H2 hi ⟨sm, rfl⟩
    refine ⟨_, rfl, _, rfl, _, rfl, _, rfl, _, rfl, r, W, i, n, p, st, rfl, rfl, rfl, SqL.of (sm _ _ hW), lW, st0, p0, en, hi, fun q' hq' => ⟨q', _, rfl, SqL.of upd_same, ?_⟩⟩
    rw [Pl.S_sum (fun t => Ld.at' W ((i : Int) + t * st))]
    refine ⟨rfl, same_new sm hq', ?_⟩
    rw [List.range_succ, List.map_append, List.map_append, List.map_singleton, List.map_singleton]
    congr 3
    rw [Bool.eq_iff_iff, decide_eq_true_iff, decide_eq_true_iff]
    exact ⟨fun z => by injection z, fun z => by rw [z]⟩
  · rintro ys H2 ⟨sm, rfl⟩ D hD
    refine ⟨D, _, rfl, SqL.of upd_same, q _ ?_ _ (same_new sm hD)⟩
    rw [List.all_eq_true]
    constructor
    · intro a s hs; exact of_decide_eq_true (a _ (List.mem_map.mpr ⟨s, List.mem_range.mpr hs, rfl⟩))
    · intro a b hb
      obtain ⟨s, hs, e⟩ := List.mem_map.mp hb
      rw [← e]; exact decide_eq_true (a s (List.mem_range.mp hs))

def spRowsH (K : PySem.W.Frag) : Sp := fun vs H Q _ => ∃ (a r : Addr) (c : List Int) (rows : List (Int × Int × Int)) (n : Nat) (ps : List (Int × Int)), vs = [.ref a, .ref r] ∧ SqL K H a (c.map V.int) ∧ TrAt H r rows ∧ c.length = n ∧ 1 ≤ n ∧ n ≤ 420 ∧ Pt.Parts n ps ∧ ∀ b, (b = true ↔ (∀ x ∈ rows, x.1 ∈ ps.map Prod.fst) ∧ ∀ x, Ld.at' c x = Rg.rvs n rows x) → ∀ H', Same H H' → Q (.bl b) H'
theorem eq_at {b c : List Int} {n : Nat} {f : Int → Int} (lb : b.length = n) (lc : c.length = n) (hn : 1 ≤ n) (bv : ∀ x, Ld.at' b x = f x) : (decide (b = c) = true) ↔ ∀ x, Ld.at' c x = f x := by
  rw [decide_eq_true_iff]
  constructor
  · intro e x; rw [← e]; exact bv x
  · intro h; exact Ld.ext (lb.trans lc.symm) fun k _ => by rw [bv, h]
theorem ok_rows_hold (T : Txt K mg C_NoRing) : Df P w K mg base 4 "rows_hold" ["load", "rows"] (spRowsH K) := by
  have D_laid := ok_laid (P := P) (w := w) (base := base) T
  refine T.d_rows_hold.ok sc_rows_hold (fun vs H Q E h => ?_) (fun f cdv A outer s H vs Q E hr h => ?_)
  · obtain ⟨_, _, _, _, _, _, rfl, _⟩ := h; rfl
  obtain ⟨a, r, c, rows, n, ps, rfl, ha, tr, lc, n1, n2, hp, q⟩ := h
  have nd := sc_rows_hold.nd
  refine ⟨_, (pss_one (ps_try rfl rfl rfl (psxs_one (psx_ret (pex_cmp (op_eqD (hu64 hr)) (pex_dx rfl D_laid (hr.mono (by decide)) (by rfl) (pa_cons (pe_callB call_len_seq (by rfl) T.b_len L2.bi_len (pa_cons (pv 0) pa_nil)) (pa_cons (pv 1) pa_nil))) (pv 0) (nomark _)))) (ph_bare (fun ea => (pe_glob (v := .ref C_NoRing) (by rfl) T.c_NoRing rfl)) (fun ea => (pss_one (ps_ret pe_bl))) ph_never))), ?_⟩
  refine ⟨_, rfl, a, _, rfl, .inl ha, _, rfl, n, r, rows, ps, by rw [mlen lc], n1, n2, tr, hp, fun prm t H1 b sm1 f1 h1 lb bv => ?_, fun bad H1 sm1 => ?_⟩
  · refine ⟨_, rfl, eqL_of (SqL.of h1) (sm1.seq ha) ?_⟩
    refine q _ ?_ _ sm1
    rw [eq_at lb lc n1 bv]
    exact ⟨fun z => ⟨prm, z⟩, fun z => z.2⟩
  · refine ⟨true, .inl T.m_NoRing, iteT fun ea hea => ?_⟩
    refine q false ⟨fun z => (by cases z), fun z => ?_⟩ _ (same_new sm1 hea)
    obtain ⟨x, hx, nx⟩ := bad
    exact absurd (z.1 x hx) nx

def RZp (n : Nat) (W : Int → Int) (p : Int) : Prop := ∀ st : Nat, 0 < st → n = p.toNat * st → ∀ s : Nat, s < st → Ld.S p.toNat (fun t => W ((s : Int) + t * st)) = 0
theorem rz_p {n : Nat} {ps : List (Int × Int)} {W : Int → Int} (h0 : ∀ p ∈ ps.map Prod.fst, 0 ≤ p) : Hd.RZ n ps W ↔ ∀ p ∈ ps.map Prod.fst, RZp n W p := by
  constructor
  · intro h p hp st st0 e s hs
    exact h p.toNat st (by rw [Int.toNat_of_nonneg (h0 p hp)]; exact hp) st0 e s (by omega) (by omega)
  · intro h p st hp st0 e s s0 s1
    have := h p hp st st0 (by rw [Int.toNat_natCast]; exact e) s.toNat (by omega)
    rwa [Int.toNat_natCast, Int.toNat_of_nonneg s0] at this
theorem rzp_iff {n st : Nat} {W : Int → Int} {p : Int} (st0 : 0 < st) (p0 : 0 < p.toNat) (e : n = p.toNat * st) : RZp n W p ↔ ∀ s : Nat, s < st → Ld.S p.toNat (fun t => W ((s : Int) + t * st)) = 0 := by
  constructor
  · intro h s hs; exact h st st0 e s hs
  · intro h st' st0' e' s hs
    have : st' = st := Nat.eq_of_mul_eq_mul_left p0 (e'.symm.trans e)
    subst this
    exact h s hs
theorem prm_pos {n : Nat} {ps : List (Int × Int)} (hp : Pt.Parts n ps) : ∀ p ∈ ps.map Prod.fst, 2 ≤ p ∧ p ∣ (n : Int) := fun p hm => by
  obtain ⟨x, hx, ex⟩ := List.mem_map.mp hm
  exact ⟨by rw [← ex]; exact (hp.row x hx).pr.1, by rw [← ex]; exact ((Pt.part_iff hp x).mp hx).2.1⟩
def spWH (K : PySem.W.Frag) : Sp := fun vs H Q _ => ∃ (a r : Addr) (c W : List Int) (n : Nat) (ps : List (Int × Int)), vs = [.ref a, .ref r] ∧ SqL K H a (c.map V.int) ∧ H r = some (.lst (W.map V.int)) ∧ c.length = n ∧ 1 ≤ n ∧ n ≤ 420 ∧ Pt.Parts n ps ∧ (W.length = n → ∀ k : Nat, k < n → IntMulOk (Ld.at' c k) (Ld.at' W k)) ∧
  ∀ b, (b = true ↔ W.length = n ∧ ¬ Ld.S n (fun k => Ld.at' c k * Ld.at' W k) = 0 ∧ Hd.RZ n ps (Ld.at' W)) → ∀ H', Same H H' → Q (.bl b) H'
theorem ok_weights_hold (T : Txt K mg C_NoRing) : Df P w K mg base 4 "weights_hold" ["load", "weights"] (spWH K) := by
  have D_weighed := ok_weighed (P := P) (w := w) (base := base) T
  have D_parts := ok_parts (P := P) (w := w) (base := base) T
  have D_rings_weigh_nought := ok_rings_weigh_nought (P := P) (w := w) (base := base) T
  refine T.d_weights_hold.ok sc_weights_hold (fun vs H Q E h => ?_) (fun f cdv A outer s H vs Q E hr h => ?_)
  · obtain ⟨_, _, _, _, _, _, rfl, _⟩ := h; rfl
  obtain ⟨a, r, c, W, n, ps, rfl, ha, hW, lc, n1, n2, hp, mo, q⟩ := h
  have nd := sc_weights_hold.nd
  refine ⟨_, (pss_cons (ps_if (PW.pt (pw_or (pt_cmpR op_ne (pe_callB call_len_seq (by rfl) T.b_len L2.bi_len (pa_cons (pv 1) pa_nil)) (pe_callB call_len_seq (by rfl) T.b_len L2.bi_len (pa_cons (pv 0) pa_nil)) (nomark _)) (pw_or1 (pt_cmpR op_eq (pe_def D_weighed (hr.mono (by decide)) (by rfl) (pa_cons (pv 0) (pa_cons (pv 1) pa_nil))) pe_int (nomark _))))) (pss_one (ps_ret pe_bl)) pss_nil) (pss_one (ps_ret (pe_callB (call_allB rfl) (by rfl) T.b_all L2.bi_all (pa_cons (pe_listcomp (cap := [("weights", 1)]) (tgs := ["p", "q"])  rfl rfl rfl (by decide +kernel) (by decide +kernel) (free_ok (by rfl)) (sub_cons rfl sub_nil) (cap_cons ⟨rfl, Or.inl rfl, Or.inl rfl, _, rfl⟩ cap_nil) (leaves_tup2 (by decide) (by decide)) (pi_list (pe_def D_parts (hr.mono (by decide)) (by rfl) (pa_cons (pe_callB call_len_seq (by rfl) T.b_len L2.bi_len (pa_cons (pv 0) pa_nil)) pa_nil))) (fun C s H fp => ⟨(pg_tup rfl (pgs_cons (pg_name (i := 1) (show (["weights", "p", "q"] : List Str).Nodup by decide +kernel) rfl (Or.inl rfl) (Or.inr rfl)) (pgs_cons (pg_name (i := 2) (show (["weights", "p", "q"] : List Str).Nodup by decide +kernel) rfl (Or.inl rfl) (Or.inr rfl)) pgs_nil))), pts_nil, (pe_def D_rings_weigh_nought (hr.mono (by decide)) (by rfl) (pa_cons (pv 0) (pa_cons (pv 1) pa_nil)))⟩)) pa_nil))))), ?_⟩
  refine ⟨_, rfl, r, _, rfl, .inl (SqL.of hW), _, rfl, a, _, rfl, .inl ha, rfl, _, rfl, ite2 (fun d => ?_) (fun d => ?_)⟩
  · have ne := vne d
    rw [List.length_map, List.length_map, lc] at ne
    exact q false ⟨fun z => (by cases z), fun z => absurd (congrArg Nat.cast z.1) ne⟩ _ (Same.refl _)
  have lW : W.length = n := by have := nvne d; rw [List.length_map, List.length_map, lc] at this; omega
  refine ⟨_, rfl, _, rfl, a, r, c, W, n, rfl, ha, SqL.of hW, lc, lW, n2, mo lW, fun H1 sm1 => ⟨rfl, _, rfl, ite2 (fun d => ?_) (fun d => ?_)⟩⟩
  · have z0 := vint d
    exact q false ⟨fun z => (by cases z), fun z => absurd z0 z.2.1⟩ _ sm1
  have nz := nvint d
  refine ⟨_, rfl, a, _, rfl, .inl (sm1.seq ha), ?_⟩
  rw [mlen lc]
  refine ⟨_, rfl, by omega, by omega, fun r1 H2 ps1 sm2 _ pa hp1 => ?_⟩
  have epp := Pt.parts_one hp1 hp
  subst epp
  obtain ⟨as, hl, pr⟩ := pa
  have al := Paired.length pr
  have lp : (ps1.length : Int) ≤ n := Rs.len_parts hp1
  have hW2 := sm2 _ _ (sm1 _ _ hW)
  refine ⟨r1, rfl, ⟨_, SqL.of hl⟩, ?_⟩
  refine comp_list (K := K) (xs := as.map V.ref) (fun i ys H3 => Same H2 H3 ∧ ∃ bs : List Bool, ys = bs.map V.bl ∧ bs.length = i ∧ (bs.all id = true ↔ ∀ x ∈ ps1.take i, RZp n (Ld.at' W) x.1)) ⟨Same.refl _, [], rfl, rfl, by simp⟩ (fun i ys H3 _ z => z.1.seq (SqL.of hl))
    (fun i ys H3 hi z => by rw [List.length_map] at hi; obtain ⟨_, bs, rfl, e, _⟩ := z; rw [List.length_map, e]; exact size1 (by omega)) ?_ ?_
  · rintro i x ys H3 hx ⟨sm3, bs, rfl, lb, all⟩
    obtain ⟨ad, rfl, ea⟩ := ref_at hx
    obtain ⟨⟨p, z⟩, ep, hat⟩ := paired_get pr ea
    have mem : (p, z) ∈ ps1 := List.mem_of_getElem? ep
    have p2 : 2 ≤ p := (hp1.row _ mem).pr.1
    have pd : p ∣ (n : Int) := ((Pt.part_iff hp1 (p, z)).mp mem).2.1
    obtain ⟨st, est, st0, enp, _⟩ := Rg.step_of n1 p2 pd
    have epn : p = ((p.toNat : Nat) : Int) := by omega
    refine ⟨ad, _, rfl, SqT.of (sm3 _ _ hat), rfl, _, _, rfl, _, _, rfl, rfl, ?_⟩
    refine ⟨_, rfl, _, rfl, r, W, n, p.toNat, st, by rw [← epn]; rfl, sm3 _ _ hW2, lW, n1, n2, by omega, st0, enp, fun b eb H4 sm4 => ?_⟩
    refine ⟨sm3.trans sm4, bs ++ [b], by rw [List.map_append]; rfl, by simp [lb], ?_⟩
    rw [List.all_append, Bool.and_eq_true, all, Pt.take_snoc ep]
    have e1 : ([b].all id = true) ↔ RZp n (Ld.at' W) p := by
      rw [rzp_iff st0 (by omega) enp, ← eb]; simp
    rw [e1]
    constructor
    · rintro ⟨h1, h2⟩ y hy
      rcases List.mem_append.mp hy with w | w
      · exact h1 y w
      · rw [List.mem_singleton.mp w]; exact h2
    · intro h; exact ⟨fun y hy => h y (List.mem_append_left _ hy), h (p, z) (List.mem_append_right _ (by simp))⟩
  · rintro ys H3 ⟨sm3, bs, rfl, lb, all⟩ D hD
    refine ⟨D, _, rfl, SqL.of upd_same, ?_⟩
    rw [List.length_map, al, List.take_length] at all
    refine q _ ?_ _ (same_new ((sm1.trans sm2).trans sm3) hD)
    rw [all, rz_p (fun p hp' => by have := (prm_pos hp1 p hp').1; omega)]
    constructor
    · intro h; exact ⟨lW, nz, fun p hp' => (let ⟨x, hx, ex⟩ := List.mem_map.mp hp'; ex ▸ h x hx)⟩
    · intro h x hx; exact h.2.2 x.1 (List.mem_map.mpr ⟨x, hx, rfl⟩)

def spRW : Sp := fun vs H Q _ => ∃ (r : Addr) (W : List Int) (n : Nat) (ps : List (Int × Int)), vs = [.int n, .ref r] ∧ H r = some (.lst (W.map V.int)) ∧ W.length = n ∧ 1 ≤ n ∧ n ≤ 420 ∧ Pt.Parts n ps ∧ ∀ b, (b = true ↔ Hd.RZ n ps (Ld.at' W)) → ∀ H', Same H H' → Q (.bl b) H'
theorem ok_law_rings_weigh (T : Txt K mg C_NoRing) : Df P w K mg base 2 "_law_rings_weigh" ["n", "weights"] spRW := by
  have D_law_primes := ok_law_primes (P := P) (w := w) (base := base) T
  refine T.d_law_rings_weigh.ok sc_law_rings_weigh (fun vs H Q E h => ?_) (fun f cdv A outer s H vs Q E hr h => ?_)
  · obtain ⟨_, _, _, _, rfl, _⟩ := h; rfl
  obtain ⟨r, W, n, ps, rfl, hW, lW, n1, n2, hp, q⟩ := h
  have nd := sc_law_rings_weigh.nd
  refine ⟨_, (pss_cons (ps_for PassesOwn.never rfl (pi_list (pe_def D_law_primes (hr.mono (by decide)) (by rfl) (pa_cons (pv 0) pa_nil))) (pg_name (i := 2) nd rfl (Or.inr rfl)) (pss_one (ps_for PassesOwn.never rfl (pi_range1 (by rfl) T.b_range (pa_cons (pe_op op_fdivB (pv 0) (pv 2)) pa_nil)) (pg_name (i := 3) nd rfl (Or.inr rfl)) (pss_one (ps_if (pt_cmpR op_ne (pe_callB (call_sumL rfl) (by rfl) T.b_sum L2.bi_sum (pa_cons (pe_listcomp (cap := [("weights", 1), ("hole", 3), ("n", 0), ("p", 2)]) (tgs := ["k"])  rfl rfl rfl (by decide +kernel) (by decide +kernel) (free_ok (by rfl)) (sub_cons rfl (sub_cons rfl (sub_cons rfl (sub_cons rfl sub_nil)))) (cap_cons ⟨rfl, Or.inl rfl, Or.inl rfl, _, rfl⟩ (cap_cons ⟨rfl, Or.inl rfl, Or.inl rfl, _, rfl⟩ (cap_cons ⟨rfl, Or.inl rfl, Or.inl rfl, _, rfl⟩ (cap_cons ⟨rfl, Or.inl rfl, Or.inl rfl, _, rfl⟩ cap_nil)))) (leaves_name (by decide)) (pi_range1 (by rfl) T.b_range (pa_cons (pv 2) pa_nil)) (fun C s H fp => ⟨(pg_name (i := 4) (show (["weights", "hole", "n", "p", "k"] : List Str).Nodup by decide +kernel) rfl (Or.inl rfl) (Or.inr rfl)), pts_nil, (pe_ix (ix_listK (K := K) rfl) (pv 0) (pe_op op_add (pv 1) (pe_op op_mulB (pv 4) (pe_op op_fdivB (pv 2) (pv 3)))) (fun _ _ => rfl))⟩)) pa_nil)) pe_int (nomark _)) (pss_one (ps_ret pe_bl)) pss_nil))))) (pss_one (ps_ret pe_bl))), ?_⟩
  refine ⟨_, rfl, n, rfl, n1, n2, fun r1 H1 ps1 sm1 f1 h1 hp1 => ⟨r1, rfl, ⟨_, SqL.of h1⟩, ?_⟩⟩
  have epp := Pt.parts_one hp1 hp
  subst epp
  refine for_list (xs := (ps1.map Prod.fst).map V.int) (fun i σ H2 => Same H1 H2 ∧ (∀ p ∈ (ps1.map Prod.fst).take i, RZp n (Ld.at' W) p) ∧ ∃ (o1 o2 : Option V), σ = [some (.int n), some (.ref r), o1, o2]) ⟨Same.refl _, by simp, none, none, rfl⟩ (fun i σ H2 _ z => z.1.seq (SqL.of h1)) ?_ ?_
  · rintro i xv σ H2 hx ⟨sm2, al, o1, o2, rfl⟩
    obtain ⟨p, rfl, ep⟩ := int_at hx
    have pm : p ∈ ps1.map Prod.fst := List.mem_of_getElem? ep
    obtain ⟨p2, pd⟩ := prm_pos hp1 p pm
    have pn := Int.le_of_dvd (by omega) pd
    obtain ⟨st, est, st0, enp, _⟩ := Rg.step_of n1 p2 pd
    have stn : (st : Int) ≤ n := by rw [← est]; exact Int.ediv_le_self _ (by omega)
    refine ⟨_, rfl, _, rfl, _, _, rfl, rfl, div_small (by omega) (by omega), _, rfl, ?_⟩
    rw [est]
    refine ⟨by omega, by omega, ?_⟩
    rw [Int.toNat_natCast]
    refine for_range0 (fun j σ H3 => Same H1 H3 ∧ (∀ s : Nat, s < j → Ld.S p.toNat (fun t => Ld.at' W ((s : Int) + t * st)) = 0) ∧ ∃ (o2 : Option V), σ = [some (.int n), some (.ref r), some (.int p), o2]) ⟨sm2, fun s hs => absurd hs (Nat.not_lt_zero _), _, rfl⟩ ?_ ?_
    · rintro j σ H3 hj ⟨sm3, zs, o2, rfl⟩
      have hW3 := sm3 _ _ (sm1 _ _ hW)
      refine ⟨_, rfl, _, rfl, by omega, by omega, ?_⟩
      refine comp_range0 (n := p.toNat) (fun i ys H5 => H5 = H3 ∧ ys = ((List.range i).map fun (t : Nat) => Ld.at' W ((j : Int) + (t : Int) * st)).map V.int) ⟨rfl, rfl⟩ (fun i ys H5 hi z => by rw [z.2, List.length_map, List.length_map, List.length_range]; exact size1 (by omega)) ?_ ?_
      · rintro i ys H5 hi ⟨rfl, rfl⟩
        have bd : (j : Int) + (i : Int) * st < n := by
          have a1 := Int.mul_le_mul_of_nonneg_right (show (i : Int) ≤ p - 1 by omega) (show 0 ≤ (st : Int) by omega)
          have a2 : (n : Int) = p * st := by rw [enp, Int.natCast_mul, Int.toNat_of_nonneg (by omega)]
          rw [Int.sub_mul] at a1
          omega
        have bd0 : 0 ≤ (i : Int) * st := Int.mul_nonneg (by omega) (by omega)
        refine ⟨_, rfl, _, rfl, _, rfl, _, rfl, _, rfl, _, _, rfl, rfl, div_small (by omega) (by omega), _, _, rfl, rfl, mul_small (by omega) (by omega), _, _, rfl, rfl, ?_⟩
        rw [est]
        refine ⟨r, _, _, _, rfl, rfl, SqL.of hW3, atI_k (by omega) (by omega), rfl, ?_⟩
        rw [List.range_succ, List.map_append, List.map_append, List.map_singleton, List.map_singleton]
      · rintro ys H5 ⟨rfl, rfl⟩ D hD
        refine ⟨D, _, rfl, SqL.of upd_same, ?_⟩
        rw [Pl.S_sum (fun t => Ld.at' W ((j : Int) + t * st))]
        refine ⟨rfl, _, rfl, ite2 (fun c => ?_) (fun c => ?_)⟩
        · have nz := vne c
          refine q false ⟨fun z => (by cases z), fun z => ?_⟩ _ (same_new (sm1.trans sm3) hD)
          exact absurd (z p.toNat st (by rw [Int.toNat_of_nonneg (by omega)]; exact pm) st0 enp j (by omega) (by omega)) nz
        · have z0 := nvne c
          refine ⟨same_new sm3 hD, fun s hs => ?_, _, rfl⟩
          rcases Nat.lt_or_ge s j with g | g
          · exact zs s g
          · have : s = j := by omega
            subst this; exact z0
    · rintro σ H3 ⟨sm3, zs, o2, rfl⟩
      refine ⟨sm3, fun p' hp' => ?_, _, _, rfl⟩
      rw [Pt.take_snoc ep] at hp'
      rcases List.mem_append.mp hp' with w | w
      · exact al p' w
      · rw [List.mem_singleton.mp w, rzp_iff st0 (by omega) enp]; exact zs
  · rintro σ H2 ⟨sm2, al, o1, o2, rfl⟩
    rw [List.length_map, List.take_length] at al
    exact q true ⟨fun _ => (rz_p (fun p hp' => by have := (prm_pos hp1 p hp').1; omega)).mpr al, fun _ => rfl⟩ _ (sm1.trans sm2)

structure Pp where
  ev : Bool
  rows : List (Int × Int × Int)
  W : List Int
def word (b : Bool) : Str := if b then "even" else "uneven"
theorem w_even (b : Bool) : decide (V.str (word b) = V.str "even") = b := by cases b <;> decide
def PpAt (H : Hp) (x : Addr) (d : Pp) : Prop := (d.ev = true ∧ TrAt H x d.rows) ∨ (d.ev = false ∧ H x = some (.lst (d.W.map V.int)))
theorem PpAt.same {H H' : Hp} {x : Addr} {d : Pp} (h : PpAt H x d) (s : Same H H') : PpAt H' x d := by
  rcases h with ⟨e, h⟩ | ⟨e, h⟩
  · exact .inl ⟨e, h.same s⟩
  · exact .inr ⟨e, s _ _ h⟩
theorem PpAt.items {H : Hp} {x : Addr} {d : Pp} (h : PpAt H x d) : ∃ ys : List V, H x = some (.lst ys) ∧ ∀ H' y, Same H H' → H' y = some (.lst ys) → PpAt H' y d := by
  rcases h with ⟨e, as, h, pr⟩ | ⟨e, h⟩
  · exact ⟨_, h, fun H' y sm hy => .inl ⟨e, as, hy, Paired.mapP pr fun b x z => sm _ _ z⟩⟩
  · exact ⟨_, h, fun H' y sm hy => .inr ⟨e, hy⟩⟩
theorem nePp {K : PySem.W.Frag} {H : Hp} {a b : Addr} {d : Pp} {Q : VK} (h1 : PpAt H a d) (h2 : PpAt H b d) (q : Q (.bl false) H) : rNeD K (.ref a) (.ref b) H Q := by
  rcases h1 with ⟨e, h1⟩ | ⟨e, h1⟩
  · rcases h2 with ⟨_, h2⟩ | ⟨e2, _⟩
    · exact neTr_of h1 h2 q
    · rw [e] at e2; cases e2
  · rcases h2 with ⟨e2, _⟩ | ⟨_, h2⟩
    · rw [e] at e2; cases e2
    · refine neL_of (SqL.of h1) (SqL.of h2) ?_
      rw [decide_eq_true rfl]; exact q
def Hh (n : Nat) (ps : List (Int × Int)) (d : Pp) (c : List Int) : Prop := if d.ev = true then (∀ x ∈ d.rows, x.1 ∈ ps.map Prod.fst) ∧ ∀ x, Ld.at' c x = Rg.rvs n d.rows x else d.W.length = n ∧ ¬ Ld.S n (fun k => Ld.at' c k * Ld.at' d.W k) = 0 ∧ Hd.RZ n ps (Ld.at' d.W)
def PpMo (n : Nat) (d : Pp) (c : List Int) : Prop := d.ev = false → d.W.length = n → ∀ k : Nat, k < n → IntMulOk (Ld.at' c k) (Ld.at' d.W k)
def spHolds (K : PySem.W.Frag) : Sp := fun vs H Q _ => ∃ (a t x : Addr) (c : List Int) (d : Pp) (n : Nat) (ps : List (Int × Int)), vs = [.ref a, .ref t] ∧ SqL K H a (c.map V.int) ∧ H t = some (.tup [.str (word d.ev), .ref x]) ∧ PpAt H x d ∧ c.length = n ∧ 1 ≤ n ∧ n ≤ 420 ∧ Pt.Parts n ps ∧ PpMo n d c ∧ ∀ b, (b = true ↔ Hh n ps d c) → ∀ H', Same H H' → Q (.bl b) H'
theorem ok_holds (T : Txt K mg C_NoRing) : Df P w K mg base 5 "holds" ["load", "paper"] (spHolds K) := by
  have D_rows_hold := ok_rows_hold (P := P) (w := w) (base := base) T
  have D_weights_hold := ok_weights_hold (P := P) (w := w) (base := base) T
  refine T.d_holds.ok sc_holds (fun vs H Q E h => ?_) (fun f cdv A outer s H vs Q E hr h => ?_)
  · obtain ⟨_, _, _, _, _, _, _, rfl, _⟩ := h; rfl
  obtain ⟨a, t, x, c, d, n, ps, rfl, ha, ht, px, lc, n1, n2, hp, mo, q⟩ := h
  have nd := sc_holds.nd
  have i0 : atI [V.str (word d.ev), V.ref x] 0 = some (.str (word d.ev)) := rfl
  have i1 : atI [V.str (word d.ev), V.ref x] 1 = some (.ref x) := rfl
  refine ⟨_, (pss_cons (ps_if (pt_cmpR op_eq (pe_ix ix_tup (pv 1) pe_int (fun _ _ => rfl)) pe_str (nomark _)) (pss_one (ps_ret (pe_def D_rows_hold (hr.mono (by decide)) (by rfl) (pa_cons (pv 0) (pa_cons (pe_ix ix_tup (pv 1) pe_int (fun _ _ => rfl)) pa_nil))))) pss_nil) (pss_one (ps_ret (pe_def D_weights_hold (hr.mono (by decide)) (by rfl) (pa_cons (pv 0) (pa_cons (pe_ix ix_tup (pv 1) pe_int (fun _ _ => rfl)) pa_nil)))))), ?_⟩
  refine ⟨_, rfl, t, _, _, _, rfl, rfl, SqT.of ht, i0, rfl, _, rfl, ?_⟩
  rw [w_even]
  rcases px with ⟨e, px⟩ | ⟨e, px⟩
  · rw [e] at i1 ht ⊢
    refine iteT ?_
    refine ⟨_, rfl, _, rfl, t, _, _, _, rfl, rfl, SqT.of ht, i1, a, x, c, d.rows, n, ps, rfl, ha, px, lc, n1, n2, hp, fun b eb H1 sm1 => q b ?_ _ sm1⟩
    unfold Hh; rw [if_pos e]; exact eb
  · rw [e] at i1 ht ⊢
    refine iteF ?_
    refine ⟨_, rfl, _, rfl, t, _, _, _, rfl, rfl, SqT.of ht, i1, a, x, c, d.W, n, ps, rfl, ha, px, lc, n1, n2, hp, mo e, fun b eb H1 sm1 => q b ?_ _ sm1⟩
    unfold Hh; rw [if_neg (by rw [e]; decide)]; exact eb
def spIs (K : PySem.W.Frag) : Sp := fun vs H Q _ => ∃ (l t x : Addr) (a : List Int) (d : Pp) (n : Nat) (ps : List (Int × Int)) (due : Bool), vs = [.ref l, .ref t, .bl due] ∧ SqL K H l (a.map V.int) ∧ H t = some (.tup [.str (word d.ev), .ref x]) ∧ PpAt H x d ∧ a.length = n ∧ 1 ≤ n ∧ n ≤ 420 ∧ Pt.Parts n ps ∧ PpMo n d a ∧ (due = true ↔ Hh n ps d a) ∧ ∀ H', Same H H' → Q (.bl true) H'
theorem ok_law_is (T : Txt K mg C_NoRing) : Df P w K mg base 6 "_law_is" ["load", "told", "due"] (spIs K) := by
  have D_holds := ok_holds (P := P) (w := w) (base := base) T
  refine T.d_law_is.ok sc_law_is (fun vs H Q E h => ?_) (fun f cdv A outer s H vs Q E hr h => ?_)
  · obtain ⟨_, _, _, _, _, _, _, _, rfl, _⟩ := h; rfl
  obtain ⟨l, t, x, a, d, n, ps, due, rfl, hl, ht, px, la, n1, n2, hp, mo, hd, q⟩ := h
  have nd := sc_law_is.nd
  have i1 : atI [V.str (word d.ev), V.ref x] 1 = some (.ref x) := rfl
  obtain ⟨ys, hx, again⟩ := px.items
  refine ⟨_, (pss_cons (ps_set (i := 3) nd rfl (Or.inl rfl) (pe_callTy call_list_of (by rfl) T.b_list L2.bi_list (pa_cons (pe_ix ix_tup (pv 1) pe_int (fun _ _ => rfl)) pa_nil))) (pss_cons (ps_set (i := 4) nd rfl (Or.inl rfl) (pe_callTy call_list_of (by rfl) T.b_list L2.bi_list (pa_cons (pv 0) pa_nil))) (pss_cons (ps_set (i := 5) nd rfl (Or.inl rfl) (pe_def D_holds (hr.mono (by decide)) (by rfl) (pa_cons (pv 4) (pa_cons (pv 1) pa_nil)))) (pss_cons (ps_if (PW.pt (pw_or (pt_cmpR (op_neD (hu64 hr)) (pe_ix ix_tup (pv 1) pe_int (fun _ _ => rfl)) (pv 3) (nomark _)) (pw_or1 (pt_cmpR (op_neD (hu64 hr)) (pv 4) (pv 0) (nomark _))))) (pss_one (ps_ret pe_bl)) pss_nil) (pss_one (ps_ret (pe_and (pe_callB call_isinst (by rfl) T.b_isinstance L2.bi_isinstance (pa_cons (pv 5) (pa_cons (pe_bltn (v := .ty "bool") (by rfl) T.b_bool L2.bi_bool (by rfl)) pa_nil))) (pe_one (pe_cmpR op_eq (pv 5) (pv 2) (nomark _)))))))))), ?_⟩
  refine ⟨_, rfl, t, _, _, _, rfl, rfl, SqT.of ht, i1, x, ys, rfl, .inl (SqL.of hx), fun he f1 => ?_⟩
  have sm1 : Same H (upd H he (.lst ys)) := same_new (Same.refl _) f1
  have h1 : upd H he (.lst ys) he = some (.lst ys) := upd_same
  generalize upd H he (.lst ys) = H1 at sm1 h1 ⊢
  refine ⟨_, rfl, l, _, rfl, .inl (sm1.seq hl), fun be f2 => ?_⟩
  have sm2 : Same H1 (upd H1 be (.lst (a.map V.int))) := same_new (Same.refl _) f2
  have h2 : upd H1 be (.lst (a.map V.int)) be = some (.lst (a.map V.int)) := upd_same
  generalize upd H1 be (.lst (a.map V.int)) = H2 at sm2 h2 ⊢
  have sm02 := sm1.trans sm2
  refine ⟨_, rfl, _, rfl, be, t, x, a, d, n, ps, rfl, SqL.of h2, sm02 _ _ ht, px.same sm02, la, n1, n2, hp, mo, fun b eb H3 sm3 => ?_⟩
  have sm03 := sm02.trans sm3
  refine ⟨_, rfl, t, _, _, _, rfl, rfl, SqT.of (sm03 _ _ ht), i1, _, rfl, nePp (px.same sm03) ((again H1 he sm1 h1).same (sm2.trans sm3)) ⟨_, rfl, iteF ?_⟩⟩
  refine ⟨_, rfl, _, rfl, neL_of (SqL.of (sm3 _ _ h2)) (sm03.seq hl) ⟨_, rfl, ?_⟩⟩
  rw [decide_eq_true rfl]
  refine iteF ?_
  have ebd : b = due := by
    have := eb.trans hd.symm
    cases b <;> cases due <;> simp at this ⊢
  subst ebd
  refine ⟨_, rfl, _, _, _, true, rfl, .bl b, kit_same _, true, rfl, iteT ?_⟩
  refine ⟨_, rfl, _, rfl, rfl, ?_⟩
  rw [decide_eq_true rfl]
  exact q _ sm03

def TbAt (H : Hp) (r : Addr) (l : List ((Int × Int) × Int)) : Prop := ∃ as : List Addr, H r = some (.lst (as.map V.ref)) ∧ Paired (fun a (z : (Int × Int) × Int) => ∃ (d : Addr) (kvs : List (Key × V)), H a = some (.tup [.int z.1.1, .int z.1.2, .ref d]) ∧ H d = some (.dK kvs) ∧ ∀ k : Int, valV kvs (kI (k % z.1.2)) = some (.int (k * z.2 % z.1.2))) as l
theorem TbAt.same {H H' : Hp} {r : Addr} {l : List ((Int × Int) × Int)} (h : TbAt H r l) (s : Same H H') : TbAt H' r l :=
  let ⟨as, h1, h2⟩ := h; ⟨as, s _ _ h1, Paired.mapP h2 fun a z ⟨d, kvs, e1, e2, e3⟩ => ⟨d, kvs, s _ _ e1, s _ _ e2, e3⟩⟩
def spLean : Sp := fun vs H Q _ => ∃ (r : Addr) (l : List ((Int × Int) × Int)) (n : Nat) (ps : List (Int × Int)) (j k : Int), vs = [.ref r, .int j, .int k] ∧ n ≤ 420 ∧ TbAt H r l ∧ Rt.Ld' n ps l ∧ Q (.int (Rt.V l j k)) H
theorem ok_law_lean (T : Txt K mg C_NoRing) : Df P w K mg base 1 "_law_lean" ["tables", "hole", "other"] spLean := by
  refine T.d_law_lean.ok sc_law_lean (fun vs H Q E h => ?_) (fun f cdv A outer s H vs Q E hr h => ?_)
  · obtain ⟨_, _, _, _, _, _, rfl, _⟩ := h; rfl
  obtain ⟨r, l, n, ps, j, k, rfl, n2, ⟨as, has, pas⟩, lds, q⟩ := h
  have nd := sc_law_lean.nd
  have al := Paired.length pas
  refine ⟨_, (pss_cons (ps_set (i := 3) nd rfl (Or.inl rfl) pe_int) (pss_cons (ps_for PassesOwn.never rfl (pi_list (pv 0)) (pg_tup rfl (pgs_cons (pg_name (i := 4) nd rfl (Or.inl rfl)) (pgs_cons (pg_name (i := 5) nd rfl (Or.inl rfl)) (pgs_cons (pg_name (i := 6) nd rfl (Or.inl rfl)) pgs_nil)))) (pss_cons (ps_set (i := 7) nd rfl (Or.inl rfl) (pe_op op_fdivB (pv 5) (pv 4))) (pss_cons (ps_set (i := 8) nd rfl (Or.inl rfl) (pe_dget (hu1 hr) (pv 6) (pe_op op_mod (pv 1) (pv 5)) (fun _ _ => rfl))) (pss_cons (ps_set (i := 9) nd rfl (Or.inl rfl) (pe_dget (hu1 hr) (pv 6) (pe_op op_mod (pv 2) (pv 5)) (fun _ _ => rfl))) (pss_cons (ps_if (pt_cmpR op_ne (pe_op op_mod (pv 8) (pv 7)) (pe_op op_mod (pv 9) (pv 7)) (nomark _)) (pss_one (ps_ret pe_int)) pss_nil) (pss_one (ps_if (pt_cmpR op_ne (pe_op op_fdivB (pv 8) (pv 7)) (pe_op op_fdivB (pv 9) (pv 7)) (nomark _)) (pss_cons (ps_if (pt_cmpR op_ne (pe_op op_fdivB (pv 9) (pv 7)) (pe_op op_sub (pv 4) pe_int) (nomark _)) (pss_one (ps_ret pe_int)) pss_nil) (pss_one (ps_set (i := 3) nd rfl (Or.inl rfl) (pe_un un_neg (pv 3))))) pss_nil))))))) (pss_one (ps_ret (pv 3))))), ?_⟩
  refine ⟨_, rfl, r, rfl, ⟨_, SqL.of has⟩, ?_⟩
  refine for_list (xs := as.map V.ref) (fun i σ H2 => H2 = H ∧ ∃ o1 o2 o3 o4 o5 o6 : Option V, σ = [some (.ref r), some (.int j), some (.int k), some (.int (Rt.V (l.take i) j k)), o1, o2, o3, o4, o5, o6]) ⟨rfl, none, none, none, none, none, none, rfl⟩ (fun i σ H2 _ z => by rw [z.1]; exact SqL.of has) ?_ ?_
  · rintro i x σ H2 hx ⟨rfl, o1, o2, o3, o4, o5, o6, rfl⟩
    obtain ⟨ad, rfl, ea⟩ := ref_at hx
    obtain ⟨z, el, d, kvs, ha, hd, tab⟩ := paired_get pas ea
    have zm : z ∈ l := List.mem_of_getElem? el
    have pc := lds.pc zm
    have zps : z.1 ∈ ps := by rw [← lds.map]; exact List.mem_map.mpr ⟨z, zm, rfl⟩
    have pq := pq_le (p := z.1.1) (q := z.1.2) lds.hp zps
    obtain ⟨m, em, em', m1⟩ := pc.m
    have mq : z.1.2 / z.1.1 ≤ z.1.2 := Int.ediv_le_self z.1.1 (show 0 ≤ z.1.2 by omega)
    have snoc : Rt.V (l.take (i + 1)) j k = Rt.V (l.take i) j k * Rt.fw z.1.1 z.1.2 z.2 j k := by rw [Pt.take_snoc el, Rt.V_snoc]
    refine ⟨ad, _, rfl, SqT.of ha, rfl, _, _, rfl, _, _, rfl, _, _, rfl, rfl, ?_⟩
    refine ⟨_, rfl, _, rfl, _, _, rfl, rfl, div_small (by show 0 < z.1.1; omega) (by show z.1.1 ≤ 1000000000; omega), ?_⟩
    have g1 := DGet.i (i := j % z.1.2) hd
    rw [tab j] at g1
    have g2 := DGet.i (i := k % z.1.2) hd
    rw [tab k] at g2
    refine ⟨_, rfl, _, rfl, _, rfl, _, _, rfl, rfl, (show 0 < z.1.2 by omega), d, _, rfl, g1, ?_⟩
    refine ⟨_, rfl, _, rfl, _, rfl, _, _, rfl, rfl, (show 0 < z.1.2 by omega), d, _, rfl, g2, ?_⟩
    refine ⟨_, rfl, _, rfl, _, _, rfl, rfl, (show 0 < z.1.2 / z.1.1 by omega), _, rfl, _, rfl, _, _, rfl, rfl, (show 0 < z.1.2 / z.1.1 by omega), rfl, _, rfl, ?_⟩
    refine ite2 (fun c => ?_) (fun c => ?_)
    · have nl : ¬ Rt.low z.1.1 z.1.2 z.2 j = Rt.low z.1.1 z.1.2 z.2 k := vne c
      have f0 : Rt.fw z.1.1 z.1.2 z.2 j k = 0 := by unfold Rt.fw; rw [if_neg nl]
      rw [Rt.V_zero zm f0] at q
      exact q
    have yl : Rt.low z.1.1 z.1.2 z.2 j = Rt.low z.1.1 z.1.2 z.2 k := nvne c
    refine ⟨_, rfl, _, rfl, _, _, rfl, rfl, div_small (show 0 < z.1.2 / z.1.1 by omega) (by show z.1.2 / z.1.1 ≤ 1000000000; omega), _, rfl, _, rfl, _, _, rfl, rfl, div_small (show 0 < z.1.2 / z.1.1 by omega) (by show z.1.2 / z.1.1 ≤ 1000000000; omega), rfl, _, rfl, ?_⟩
    refine ite2 (fun d' => ?_) (fun d' => ?_)
    · have nt : ¬ Rt.top z.1.1 z.1.2 z.2 j = Rt.top z.1.1 z.1.2 z.2 k := vne d'
      refine ⟨_, rfl, _, rfl, _, _, rfl, rfl, div_small (show 0 < z.1.2 / z.1.1 by omega) (by show z.1.2 / z.1.1 ≤ 1000000000; omega), _, rfl, _, _, rfl, rfl, rfl, _, rfl, ?_⟩
      refine ite2 (fun e => ?_) (fun e => ?_)
      · have ne : ¬ Rt.top z.1.1 z.1.2 z.2 k = z.1.1 - 1 := vne e
        have f0 : Rt.fw z.1.1 z.1.2 z.2 j k = 0 := by unfold Rt.fw; rw [if_pos yl, if_neg (fun y => nt y.symm), if_neg ne]
        rw [Rt.V_zero zm f0] at q
        exact q
      · have ye : Rt.top z.1.1 z.1.2 z.2 k = z.1.1 - 1 := nvne e
        have f0 : Rt.fw z.1.1 z.1.2 z.2 j k = -1 := by unfold Rt.fw; rw [if_pos yl, if_neg (fun y => nt y.symm), if_pos ye]
        refine ⟨_, rfl, _, rfl, ?_⟩
        refine ⟨rfl, some (.int z.1.1), some (.int z.1.2), some (.ref d), some (.int (z.1.2 / z.1.1)), some (.int (j * z.2 % z.1.2)), some (.int (k * z.2 % z.1.2)), ?_⟩
        rw [snoc, f0, Int.mul_neg, Int.mul_one]
        rfl
    · have yt : Rt.top z.1.1 z.1.2 z.2 j = Rt.top z.1.1 z.1.2 z.2 k := nvne d'
      have f0 : Rt.fw z.1.1 z.1.2 z.2 j k = 1 := by unfold Rt.fw; rw [if_pos yl, if_pos yt.symm]
      refine ⟨rfl, some (.int z.1.1), some (.int z.1.2), some (.ref d), some (.int (z.1.2 / z.1.1)), some (.int (j * z.2 % z.1.2)), some (.int (k * z.2 % z.1.2)), ?_⟩
      rw [snoc, f0, Int.mul_one]
      rfl
  · rintro σ H2 ⟨rfl, o1, o2, o3, o4, o5, o6, rfl⟩
    rw [List.length_map, al, List.take_length]
    exact ⟨_, rfl, q⟩
def spTables : Sp := fun vs H Q _ => ∃ (n : Nat) (ps : List (Int × Int)) (l : List ((Int × Int) × Int)), vs = [.int n] ∧ 1 ≤ n ∧ n ≤ 420 ∧ Rt.Ld' n ps l ∧ ∀ t H', Same H H' → H t = none → TbAt H' t l → Q (.ref t) H'
theorem ok_law_tables (T : Txt K mg C_NoRing) : Df P w K mg base 2 "_law_tables" ["n"] spTables := by
  have D_law_primes := ok_law_primes (P := P) (w := w) (base := base) T
  refine T.d_law_tables.ok sc_law_tables (fun vs H Q E h => ?_) (fun f cdv A outer s H vs Q E hr h => ?_)
  · obtain ⟨_, _, _, rfl, _⟩ := h; rfl
  obtain ⟨n, ps, l, rfl, n1, n2, lds, q⟩ := h
  have nd := sc_law_tables.nd
  refine ⟨_, (pss_cons (ps_set (i := 1) nd rfl (Or.inl rfl) (pe_lst pa_nil)) (pss_cons (ps_for PassesOwn.never rfl (pi_list (pe_def D_law_primes (hr.mono (by decide)) (by rfl) (pa_cons (pv 0) pa_nil))) (pg_name (i := 2) nd rfl (Or.inl rfl)) (pss_cons (ps_set (i := 3) nd rfl (Or.inl rfl) (pv 2)) (pss_cons (ps_while PassesOwn.never (pt_cmpR op_eq (pe_op op_mod (pv 0) (pe_op op_mulB (pv 3) (pv 2))) pe_int (nomark _)) (pss_one (ps_set (i := 3) nd rfl (Or.inl rfl) (pe_op op_mulB (pv 3) (pv 2))))) (pss_cons (ps_set (i := 4) nd rfl (Or.inl rfl) pe_dnewK) (pss_cons (ps_for PassesOwn.never rfl (pi_range1 (by rfl) T.b_range (pa_cons (pv 3) pa_nil)) (pg_name (i := 5) nd rfl (Or.inl rfl)) (pss_one (ps_dput (hu1 hr) (pv 4) (pe_op op_mod (pe_op op_mulB (pv 5) (pe_op op_fdivB (pv 0) (pv 3))) (pv 3)) (pv 5) (by rfl)))) (pss_one (ps_expr (pe_bm PySem.F.plainAttrs_list PySem.F.slot_list_append PySem.F.type_list_append mt_append (pv 1) (pa_cons (pe_tup (pa_cons (pv 2) (pa_cons (pv 3) (pa_cons (pv 4) pa_nil)))) pa_nil))))))))) (pss_one (ps_ret (pv 1))))), ?_⟩
  refine ⟨size2 (by simp), fun fo ffo => ?_⟩
  have smA : Same H (upd H fo (.lst [])) := same_new (Same.refl _) ffo
  have hA : upd H fo (.lst []) fo = some (.lst []) := upd_same
  generalize upd H fo (.lst []) = HA at smA hA ⊢
  refine ⟨_, rfl, n, rfl, n1, n2, fun r1 H1 ps1 sm1 f1 h1 hp1 => ⟨r1, rfl, ⟨_, SqL.of h1⟩, ?_⟩⟩
  have epp := Pt.parts_one hp1 lds.hp
  subst epp
  have ll : l.length = ps1.length := by have := congrArg List.length lds.map; rwa [List.length_map] at this
  have n1f : r1 ≠ fo := fun z => by rw [z, hA] at f1; cases f1
  have lp : (ps1.length : Int) ≤ n := Rs.len_parts hp1
  refine for_list (xs := (ps1.map Prod.fst).map V.int) (fun i σ H2 => (∀ c o, c ≠ fo → H1 c = some o → H2 c = some o) ∧ ∃ (o1 o2 o3 o4 : Option V), σ = [some (.int n), some (.ref fo), o1, o2, o3, o4] ∧ TbAt H2 fo (l.take i))
    ⟨fun _ _ _ h => h, none, none, none, none, rfl, [], sm1 _ _ hA, .nil⟩ (fun i σ H2 _ z => SqL.of (z.1 _ _ n1f h1)) ?_ ?_
  · rintro i xv σ H2 hx ⟨kp2, o1, o2, o3, o4, rfl, tb⟩
    obtain ⟨p, rfl, ep⟩ := int_at hx
    have ilt : i < ps1.length := by have := (List.getElem?_eq_some_iff.mp ep).1; rwa [List.length_map] at this
    have ex : ps1[i]? = some ps1[i] := List.getElem?_eq_getElem ilt
    have el : l[i]? = some (l[i]'(by omega)) := List.getElem?_eq_getElem (by omega)
    have e1 : ps1[i].1 = p := by rw [List.getElem?_map, ex] at ep; exact Option.some.inj ep
    have e2 : (l[i]'(by omega)).1 = ps1[i] := by
      have : (l.map Prod.fst)[i]? = some (l[i]'(by omega)).1 := by rw [List.getElem?_map, el]; rfl
      rw [lds.map, ex] at this
      exact (Option.some.inj this).symm
    have pcz := lds.pc (List.getElem_mem (show i < l.length by omega))
    have mem : ps1[i] ∈ ps1 := List.getElem_mem ilt
    have pi := (Pt.part_iff hp1 ps1[i]).mp mem
    have rw_ := Pt.row_le (hp1.row _ mem)
    have pn : ps1[i].2 ≤ n := by have := Pt.le_Prd ps1 hp1.row _ mem; rw [hp1.prd] at this; exact this
    generalize l[i]'(by omega) = zz at *
    generalize ps1[i] = x at *
    obtain ⟨z1, u⟩ := zz
    dsimp only at e2
    have e2' := e2.symm
    subst e2'
    subst e1
    dsimp only at pcz
    refine ⟨_, rfl, ?_⟩
    refine ⟨fun m σ H4 => H4 = H2 ∧ ∃ z : Int, σ = [some (.int n), some (.ref fo), some (.int x.1), some (.int z), o3, o4] ∧ Pt.IsPow x.1 z ∧ z ∣ n ∧ x.1 ≤ z ∧ m = (n + 1 - z).toNat,
      ⟨_, rfl, x.1, rfl, ⟨0, by rw [Pt.pow1]⟩, pi.2.1, Int.le_refl _, rfl⟩, ?_⟩
    rintro m σ H4 ⟨rfl, z, rfl, zp, zd, zx, rfl⟩
    have zn : z ≤ n := Int.le_of_dvd (by omega) zd
    have grow := Pt.q_grow rw_.1 (show 1 ≤ z by omega)
    refine ⟨_, rfl, _, rfl, _, rfl, _, _, rfl, rfl, mul_small (by omega) (by omega), _, _, rfl, rfl, (show 0 < z * x.1 by omega), rfl, _, rfl, ?_⟩
    refine ite2 (fun d => ?_) (fun d => ?_)
    · have dd := Int.dvd_of_emod_eq_zero (vint d)
      have dl := Int.le_of_dvd (by omega) dd
      refine ⟨_, fun _ _ h => h, ?_⟩
      refine ⟨_, rfl, _, rfl, _, _, rfl, rfl, mul_small (by omega) (by omega), ?_⟩
      refine ⟨(n + 1 - z * x.1).toNat, by omega, rfl, z * x.1, rfl, ?_, dd, by omega, rfl⟩
      obtain ⟨k, hk⟩ := zp
      exact ⟨k + 1, by rw [hk, Int.pow_succ x.1 (k + 1)]⟩
    · have nd' : ¬ z * x.1 ∣ n := fun y => nvint d (Int.emod_eq_zero_of_dvd y)
      have mem2 : (x.1, z) ∈ ps1 := (Pt.part_iff hp1 (x.1, z)).mpr ⟨pi.1, pi.2.1, zp, zd, nd'⟩
      have ezx : z = x.2 := congrArg Prod.snd (Rt.snd_one hp1 mem2 mem rfl)
      subst ezx
      have q2 := pcz.q2
      refine fun da hda => ?_
      obtain ⟨as, has, pas⟩ := tb
      have al := Paired.length pas
      have nfd : fo ≠ da := ne_of_none has hda
      have smD : Same H4 (upd H4 da (.dK [])) := same_new (Same.refl _) hda
      have hD0 : upd H4 da (.dK []) da = some (.dK []) := upd_same
      generalize upd H4 da (.dK []) = HD at smD hD0 ⊢
      refine ⟨_, rfl, _, rfl, by omega, by omega, ?_⟩
      refine for_range0 (fun j σ H5 => (∀ c o, c ≠ da → HD c = some o → H5 c = some o) ∧ ∃ (kvs : List (Key × V)) (o4 : Option V), σ = [some (.int n), some (.ref fo), some (.int x.1), some (.int x.2), some (.ref da), o4] ∧ H5 da = some (.dK kvs) ∧ kvs.length ≤ j ∧ ∀ c : Nat, c < j → valV kvs (kI ((c : Int) * ((n : Int) / x.2) % x.2)) = some (.int c))
        ⟨fun _ _ _ h => h, [], _, rfl, hD0, by simp, fun c hc => absurd hc (Nat.not_lt_zero _)⟩ ?_ ?_
      · rintro j σ H5 hj ⟨kp, kvs, o4', rfl, h5, kl, kv⟩
        refine ⟨_, rfl, _, rfl, _, rfl, _, rfl, _, rfl, _, _, rfl, rfl, div_small (by omega) (by omega), _, _, rfl, rfl, mul_small (by omega) (by omega), _, rfl, _, _, rfl, rfl, (show 0 < x.2 by omega), da, _, rfl, DPut.i h5 (size1 (by omega)), ?_⟩
        refine ⟨fun c o ne h => (upd_ne ne).trans (kp c o ne h), _, _, rfl, upd_same, by have := length_putK kvs (kI ((j : Int) * ((n : Int) / x.2) % x.2)) (.int j); omega, fun c hc => ?_⟩
        rw [valV_put]
        by_cases e : c = j
        · rw [e, if_pos rfl]
        · rw [if_neg, kv c (by omega)]
          intro y
          injection y with y
          have := Hd.tab_inj pcz (show (0 : Int) ≤ c by omega) (by omega) (show (0 : Int) ≤ j by omega) (by omega) y
          omega
      · rintro σ H5 ⟨kp, kvs, o4', rfl, h5, kl, kv⟩
        have hfo := kp _ _ nfd (smD _ _ has)
        have tab : ∀ k : Int, valV kvs (kI (k % x.2)) = some (.int (k * u % x.2)) := fun k => by
          have b0 := Int.emod_nonneg (k * u) (show x.2 ≠ 0 by omega)
          have b1 := Int.emod_lt_of_pos (k * u) (show 0 < x.2 by omega)
          have := kv (k * u % x.2).toNat (by omega)
          rw [Int.toNat_of_nonneg b0, Hd.tab_at pcz k] at this
          exact this
        refine ⟨_, rfl, .inl ⟨rfl, _, SqL.of hfo⟩, _, rfl, _, rfl, _, rfl, size2 (by simp), fun tt ftt => ?_⟩
        have smT : Same H5 (upd H5 tt (.tup [V.int x.1, V.int x.2, V.ref da])) := same_new (Same.refl _) ftt
        have hT : upd H5 tt (.tup [V.int x.1, V.int x.2, V.ref da]) tt = some (.tup [V.int x.1, V.int x.2, V.ref da]) := upd_same
        generalize upd H5 tt (.tup [V.int x.1, V.int x.2, V.ref da]) = HT at smT hT ⊢
        have hfoT := smT _ _ hfo
        have nft : fo ≠ tt := fun z => by rw [z, ftt] at hfo; cases hfo
        refine ⟨fo, _, _, rfl, rfl, hfoT, by rw [List.length_map, al, List.length_take]; exact size1 (by omega), ?_⟩
        have st : ∀ c o, c ≠ fo → HT c = some o → upd HT fo (.lst (as.map V.ref ++ [V.ref tt])) c = some o := fun c o ne h => (upd_ne ne).trans h
        have dfo : da ≠ fo := Ne.symm nfd
        refine ⟨fun c o ne h => ?_, _, _, _, _, rfl, as ++ [tt], by rw [upd_same, List.map_append]; rfl, ?_⟩
        · have h4 := kp2 c o ne h
          have ncd : c ≠ da := fun z => by rw [z, hda] at h4; cases h4
          exact st c o ne (smT _ _ (kp c o ncd (smD _ _ h4)))
        · rw [Pt.take_snoc el]
          refine Paired.snoc (Paired.mapP pas fun a z ⟨d', kvs', e1, e2, e3⟩ => ?_) ⟨da, kvs, st _ _ (Ne.symm nft) hT, st _ _ dfo (smT _ _ h5), tab⟩
          have na : a ≠ da := fun y => by rw [y, hda] at e1; cases e1
          have nd1 : d' ≠ da := fun y => by rw [y, hda] at e2; cases e2
          have na2 : a ≠ fo := fun y => by rw [y, has] at e1; cases e1
          have nd2 : d' ≠ fo := fun y => by rw [y, has] at e2; cases e2
          exact ⟨d', kvs', st _ _ na2 (smT _ _ (kp _ _ na (smD _ _ e1))), st _ _ nd2 (smT _ _ (kp _ _ nd1 (smD _ _ e2))), e3⟩
  · rintro σ H2 ⟨kp2, o1, o2, o3, o4, rfl, tb⟩
    rw [List.length_map, List.length_map, ← ll, List.take_length] at tb
    exact ⟨_, rfl, q fo H2 (fun c o h => kp2 c o (fun z => by rw [z, ffo] at h; cases h) (sm1 _ _ (smA _ _ h))) ffo tb⟩

def spGood (K : PySem.W.Frag) : Sp := fun vs H Q _ => ∃ (s r l : Addr) (ns : List Int) (n : Nat) (rows : List (Int × Int × Int)) (ps : List (Int × Int)) (a : List Int), vs = [.ref s, .int n, .ref r, .ref l] ∧ SqL K H s (ns.map V.int) ∧ TrAt H r rows ∧ Pt.Parts n ps ∧ Rws n ps rows ∧ SqL K H l (a.map V.int) ∧ a.length = n ∧ 1 ≤ n ∧ n ≤ 419 ∧ (∀ x, Ld.at' a x = Rg.rvs n rows x) ∧ ∀ H', Same H H' → Q (.bl true) H'
theorem ev_pp {n : Nat} {ps : List (Int × Int)} {rows : List (Int × Int × Int)} {a : List Int} : Hh n ps ⟨true, rows, []⟩ a ↔ (∀ x ∈ rows, x.1 ∈ ps.map Prod.fst) ∧ ∀ x, Ld.at' a x = Rg.rvs n rows x := by unfold Hh; rw [if_pos rfl]
theorem mo_ev {n : Nat} {rows : List (Int × Int × Int)} {a : List Int} : PpMo n ⟨true, rows, []⟩ a := fun e => by cases e
theorem ok_law_rows_good (T : Txt K mg C_NoRing) : Df P w K mg base 7 "_law_rows_good" ["script", "n", "rows", "load"] (spGood K) := by
  have D_law_cell := ok_law_cell (P := P) (w := w) (base := base) T
  have D_law_is := ok_law_is (P := P) (w := w) (base := base) T
  refine T.d_law_rows_good.ok sc_law_rows_good (fun vs H Q E h => ?_) (fun f cdv A outer s H vs Q E hr h => ?_)
  · obtain ⟨_, _, _, _, _, _, _, _, rfl, _⟩ := h; rfl
  obtain ⟨sc, r, l, ns, n, rows, ps, a, rfl, hs, tr, hp, rok, hl, la, n1, n2, av, q⟩ := h
  have nd := sc_law_rows_good.nd
  have pw : CPow 10 20 := ⟨by decide, by decide, by decide⟩
  obtain ⟨rs, hrs, prs⟩ := id tr
  have rl := Paired.length prs
  have r62 := rok.1
  have cT : ∀ {k : Nat}, k ≤ rs.length → cutV (rs.map V.ref) none (some (k : Int)) = (rs.take k).map V.ref := fun h => by rw [cut_toV _ (by rw [List.length_map]; exact h), ← List.map_take]
  have cF : ∀ {k : Nat}, k ≤ rs.length → cutV (rs.map V.ref) (some (k : Int)) none = (rs.drop k).map V.ref := fun h => by rw [cut_fromV _ (by rw [List.length_map]; exact h), ← List.map_drop]
  refine ⟨_, (pss_cons (ps_set (i := 4) nd rfl (Or.inl rfl) (pe_def D_law_cell (hr.mono (by decide)) (by rfl) (pa_cons (pv 0) (pa_cons pe_int pa_nil)))) (pss_cons (ps_set (i := 5) nd rfl (Or.inl rfl) (pe_op op_mod (pv 4) (pe_op op_add (pe_callB call_len_seq (by rfl) T.b_len L2.bi_len (pa_cons (pv 2) pa_nil)) pe_int))) (pss_cons (ps_set (i := 6) nd rfl (Or.inl rfl) (pe_ix ix_list (pe_lst (pa_cons pe_int (pa_cons pe_int (pa_cons pe_int (pa_cons pe_int (pa_cons pe_int (pa_cons (pe_un un_neg pe_int) (pa_cons (pe_un un_neg pe_int) (pa_cons pe_int pa_nil))))))))) (pe_op op_mod (pe_op op_fdivB (pv 4) pe_int) pe_int) (fun _ _ => rfl))) (pss_cons (ps_set (i := 7) nd rfl (Or.inl rfl) (pe_tup (pa_cons (pv 6) (pa_cons (pe_op op_mod (pe_op op_fdivB (pv 4) pe_int) (pv 1)) (pa_cons (pe_op op_mod (pe_op op_fdivB (pv 4) pe_int) pe_int) pa_nil))))) (pss_cons (ps_set (i := 8) nd rfl (Or.inl rfl) (pe_op op_cat (pe_op op_cat (pe_slice sl_list (pv 2) po_none (po_some (pv 5))) (pe_lst (pa_cons (pv 7) pa_nil))) (pe_slice sl_list (pv 2) (po_some (pv 5)) po_none))) (pss_cons (ps_if (pt_not (pt_val (pe_def D_law_is (hr.mono (by decide)) (by rfl) (pa_cons (pv 3) (pa_cons (pe_tup (pa_cons pe_str (pa_cons (pv 8) pa_nil))) (pa_cons pe_bl pa_nil)))))) (pss_one (ps_ret pe_bl)) pss_nil) (pss_cons (ps_set (i := 9) nd rfl (Or.inl rfl) (pe_callTy call_list_of (by rfl) T.b_list L2.bi_list (pa_cons (pv 3) pa_nil))) (pss_cons (ps_set (i := 10) nd rfl (Or.inl rfl) (pe_op op_mod (pe_op op_fdivB (pv 4) pe_int) (pv 1))) (pss_cons (ps_asg (pe_op op_add (pe_op op_add (pe_ix ix_list (pv 9) (pv 10) (fun _ _ => rfl)) pe_int) (pe_op op_mod (pe_op op_fdivB (pv 4) pe_int) (pe_op op_pow pe_int pe_int))) (pg_sub (pv 9) (pv 10) set_list)) (pss_cons (ps_if (pt_not (pt_val (pe_def D_law_is (hr.mono (by decide)) (by rfl) (pa_cons (pv 9) (pa_cons (pe_tup (pa_cons pe_str (pa_cons (pv 2) pa_nil))) (pa_cons pe_bl pa_nil)))))) (pss_one (ps_ret pe_bl)) pss_nil) (pss_cons (ps_if (pt_cmpR op_eq (pv 5) (pe_callB call_len_seq (by rfl) T.b_len L2.bi_len (pa_cons (pv 2) pa_nil)) (nomark _)) (pss_one (ps_ret pe_bl)) pss_nil) (pss_cons (ps_asg (pe_ix ix_list (pv 2) (pv 5) (fun _ _ => rfl)) (pg_tup rfl (pgs_cons (pg_name (i := 11) nd rfl (Or.inl rfl)) (pgs_cons (pg_name (i := 12) nd rfl (Or.inl rfl)) (pgs_cons (pg_name (i := 13) nd rfl (Or.inl rfl)) pgs_nil))))) (pss_cons (ps_set (i := 14) nd rfl (Or.inl rfl) (pe_tup (pa_cons (pv 11) (pa_cons (pe_op op_add (pv 12) (pe_op op_mulB (pe_op op_fdivB (pv 1) (pv 11)) (pe_op op_sub (pe_op op_mod (pe_op op_fdivB (pv 4) pe_int) pe_int) pe_int))) (pa_cons (pv 13) pa_nil))))) (pss_cons (ps_set (i := 15) nd rfl (Or.inl rfl) (pe_op op_cat (pe_op op_cat (pe_lrev rfl (by rfl) T.b_list (by rfl) T.b_reversed (pa_cons (pe_slice sl_list (pv 2) (po_some (pe_op op_add (pv 5) pe_int)) po_none) pa_nil)) (pe_lst (pa_cons (pv 14) pa_nil))) (pe_slice sl_list (pv 2) po_none (po_some (pv 5))))) (pss_cons (ps_if (pt_not (pt_val (pe_def D_law_is (hr.mono (by decide)) (by rfl) (pa_cons (pv 3) (pa_cons (pe_tup (pa_cons pe_str (pa_cons (pv 15) pa_nil))) (pa_cons pe_bl pa_nil)))))) (pss_one (ps_ret pe_bl)) pss_nil) (pss_cons (ps_set (i := 16) nd rfl (Or.inl rfl) (pe_op op_cat (pe_op op_cat (pe_slice sl_list (pv 2) po_none (po_some (pv 5))) (pe_lst (pa_cons (pe_tup (pa_cons (pv 11) (pa_cons (pv 12) (pa_cons (pe_op op_sub (pv 13) pe_int) pa_nil)))) pa_nil))) (pe_slice sl_list (pv 2) (po_some (pe_op op_add (pv 5) pe_int)) po_none))) (pss_cons (ps_if (pt_not (pt_val (pe_def D_law_is (hr.mono (by decide)) (by rfl) (pa_cons (pv 3) (pa_cons (pe_tup (pa_cons pe_str (pa_cons (pv 16) pa_nil))) (pa_cons pe_bl pa_nil)))))) (pss_one (ps_ret pe_bl)) pss_nil) (pss_one (ps_ret (pe_def D_law_is (hr.mono (by decide)) (by rfl) (pa_cons (pv 3) (pa_cons (pe_tup (pa_cons pe_str (pa_cons (pe_op op_cat (pv 16) (pe_lst (pa_cons (pe_tup (pa_cons (pv 11) (pa_cons (pe_op op_sub (pv 12) (pv 1)) (pa_cons pe_int pa_nil)))) pa_nil))) pa_nil))) (pa_cons pe_bl pa_nil))))))))))))))))))))))), ?_⟩
  rw [show start ["script", "n", "rows", "load", "cell", "at", "odd", "amid", "spoilt", "bent", "spot", "p", "hole", "many", "around", "about", "parted"] [V.ref sc, V.int n, V.ref r, V.ref l] = [some (.ref sc), some (.int n), some (.ref r), some (.ref l), none, none, none, none, none, none, none, none, none, none, none, none, none] from rfl]
  refine ⟨_, rfl, sc, ns, 1, rfl, hs, (by decide), fun cell => ?_⟩
  try dsimp only [gName, List.set_cons_succ, List.set_cons_zero]
  refine ⟨_, rfl, _, rfl, r, _, rfl, .inl (SqL.of hrs), _, _, rfl, rfl, _, _, rfl, rfl, (show (0 : Int) < ((rs.map V.ref).length : Int) + 1 by omega), ?_⟩
  obtain ⟨k, hk, kl⟩ : ∃ k : Nat, cell % (((rs.map V.ref).length : Int) + 1) = k ∧ k ≤ rs.length := by
    have m0 := Int.emod_nonneg cell (show (((rs.map V.ref).length : Int) + 1) ≠ 0 by omega)
    have m1 := Int.emod_lt_of_pos cell (show 0 < (((rs.map V.ref).length : Int) + 1) by omega)
    have : (rs.map V.ref).length = rs.length := List.length_map ..
    exact ⟨(cell % (((rs.map V.ref).length : Int) + 1)).toNat, by omega, by omega⟩
  dsimp only
  rw [hk]
  try dsimp only [gName, List.set_cons_succ, List.set_cons_zero]
  refine ⟨_, rfl, _, rfl, size2 (by simp), fun lo f1 => ?_⟩
  have sm1 : Same H (upd H lo (.lst [V.int 0, V.int 1, V.int 4, V.int 6, V.int 9, V.int (-2), V.int (-3), V.int 421])) := same_new (Same.refl _) f1
  have h1 : upd H lo (.lst [V.int 0, V.int 1, V.int 4, V.int 6, V.int 9, V.int (-2), V.int (-3), V.int 421]) lo = some (.lst [V.int 0, V.int 1, V.int 4, V.int 6, V.int 9, V.int (-2), V.int (-3), V.int 421]) := upd_same
  generalize upd H lo (.lst [V.int 0, V.int 1, V.int 4, V.int 6, V.int 9, V.int (-2), V.int (-3), V.int 421]) = H1 at sm1 h1 ⊢
  have c0 := Int.emod_nonneg (cell / 5) (show (8 : Int) ≠ 0 by decide)
  have c1 := Int.emod_lt_of_pos (cell / 5) (show (0 : Int) < 8 by decide)
  obtain ⟨odd, hodd, oddc⟩ : ∃ p : Int, atI [V.int 0, V.int 1, V.int 4, V.int 6, V.int 9, V.int (-2), V.int (-3), V.int 421] (cell / 5 % 8) = some (.int p) ∧ (p = 0 ∨ p = 1 ∨ p = 4 ∨ p = 6 ∨ p = 9 ∨ p = -2 ∨ p = -3 ∨ p = 421) := by
    have h : cell / 5 % 8 = 0 ∨ cell / 5 % 8 = 1 ∨ cell / 5 % 8 = 2 ∨ cell / 5 % 8 = 3 ∨ cell / 5 % 8 = 4 ∨ cell / 5 % 8 = 5 ∨ cell / 5 % 8 = 6 ∨ cell / 5 % 8 = 7 := by omega
    rcases h with h | h | h | h | h | h | h | h <;> rw [h]
    · exact ⟨0, rfl, by omega⟩
    · exact ⟨1, rfl, by omega⟩
    · exact ⟨4, rfl, by omega⟩
    · exact ⟨6, rfl, by omega⟩
    · exact ⟨9, rfl, by omega⟩
    · exact ⟨-2, rfl, by omega⟩
    · exact ⟨-3, rfl, by omega⟩
    · exact ⟨421, rfl, by omega⟩
  refine ⟨_, rfl, _, _, rfl, rfl, div_small (by decide) (by decide), _, _, rfl, rfl, (by show (0 : Int) < _; decide), lo, _, _, _, rfl, rfl, SqL.of h1, hodd, ?_⟩
  try dsimp only [gName, List.set_cons_succ, List.set_cons_zero]
  refine ⟨_, rfl, _, rfl, _, _, rfl, rfl, div_small (by decide) (by decide), _, rfl, _, _, rfl, rfl, (show (0 : Int) < n by omega), _, rfl, _, _, rfl, rfl, div_small (by decide) (by decide), _, _, rfl, rfl, (by show (0 : Int) < _; decide), size2 (by simp), fun am f2 => ?_⟩
  have sm2 : Same H1 (upd H1 am (.tup [V.int odd, V.int (cell / 7 % n), V.int (cell / 11 % 2)])) := same_new (Same.refl _) f2
  have h2 : upd H1 am (.tup [V.int odd, V.int (cell / 7 % n), V.int (cell / 11 % 2)]) am = some (.tup [V.int odd, V.int (cell / 7 % n), V.int (cell / 11 % 2)]) := upd_same
  generalize upd H1 am (.tup [V.int odd, V.int (cell / 7 % n), V.int (cell / 11 % 2)]) = H2 at sm2 h2 ⊢
  try dsimp only [gName, List.set_cons_succ, List.set_cons_zero]
  have sm02 := sm1.trans sm2
  have hrs2 := sm02 _ _ hrs
  -- spoilt
  refine ⟨_, rfl, _, rfl, _, rfl, r, _, rfl, SqL.of hrs2, fun a1 f_a1 => ?_⟩
  have sm3 : Same H2 (upd H2 a1 (.lst (cutV (rs.map V.ref) none (some (k : Int))))) := same_new (Same.refl _) f_a1
  have h3 : upd H2 a1 (.lst (cutV (rs.map V.ref) none (some (k : Int)))) a1 = some (.lst ((rs.take k).map V.ref)) := by rw [upd_same]; exact congrArg (fun z => some (L2.HO.lst z)) (cT kl)
  generalize upd H2 a1 (.lst (cutV (rs.map V.ref) none (some (k : Int)))) = H3 at sm3 h3 ⊢
  refine ⟨_, rfl, size2 (by simp), fun a2 f_a2 => ?_⟩
  have sm4 : Same H3 (upd H3 a2 (.lst [V.ref am])) := same_new (Same.refl _) f_a2
  have h4 : upd H3 a2 (.lst [V.ref am]) a2 = some (.lst [V.ref am]) := upd_same
  generalize upd H3 a2 (.lst [V.ref am]) = H4 at sm4 h4 ⊢
  refine ⟨_, _, _, _, rfl, rfl, (sm4 _ _ h3), h4, size2 (by simp; omega), fun a3 f_a3 => ?_⟩
  have sm5 : Same H4 (upd H4 a3 (.lst ((rs.take k).map V.ref ++ [V.ref am]))) := same_new (Same.refl _) f_a3
  have h5 : upd H4 a3 (.lst ((rs.take k).map V.ref ++ [V.ref am])) a3 = some (.lst ((rs.take k).map V.ref ++ [V.ref am])) := upd_same
  generalize upd H4 a3 (.lst ((rs.take k).map V.ref ++ [V.ref am])) = H5 at sm5 h5 ⊢
  have sm25 := (sm3.trans sm4).trans sm5
  refine ⟨_, rfl, _, rfl, _, rfl, r, _, rfl, SqL.of (sm25 _ _ hrs2), fun a4 f_a4 => ?_⟩
  have sm6 : Same H5 (upd H5 a4 (.lst (cutV (rs.map V.ref) (some (k : Int)) none))) := same_new (Same.refl _) f_a4
  have h6 : upd H5 a4 (.lst (cutV (rs.map V.ref) (some (k : Int)) none)) a4 = some (.lst ((rs.drop k).map V.ref)) := by rw [upd_same]; exact congrArg (fun z => some (L2.HO.lst z)) (cF kl)
  generalize upd H5 a4 (.lst (cutV (rs.map V.ref) (some (k : Int)) none)) = H6 at sm6 h6 ⊢
  refine ⟨_, _, _, _, rfl, rfl, (sm6 _ _ h5), h6, size2 (by simp; omega), fun a5 f_a5 => ?_⟩
  have sm7 : Same H6 (upd H6 a5 (.lst ((rs.take k).map V.ref ++ [V.ref am] ++ (rs.drop k).map V.ref))) := same_new (Same.refl _) f_a5
  have h7 : upd H6 a5 (.lst ((rs.take k).map V.ref ++ [V.ref am] ++ (rs.drop k).map V.ref)) a5 = some (.lst ((rs.take k).map V.ref ++ [V.ref am] ++ (rs.drop k).map V.ref)) := upd_same
  generalize upd H6 a5 (.lst ((rs.take k).map V.ref ++ [V.ref am] ++ (rs.drop k).map V.ref)) = H7 at sm7 h7 ⊢
  try dsimp only [gName, List.set_cons_succ, List.set_cons_zero]
  have sm27 := (sm25.trans sm6).trans sm7
  have sm07 := sm02.trans sm27
  have trS : TrAt H7 a5 (rows.take k ++ [(odd, cell / 7 % n, cell / 11 % 2)] ++ rows.drop k) := by
    refine ⟨rs.take k ++ [am] ++ rs.drop k, by rw [h7, List.map_append, List.map_append]; rfl, ?_⟩
    exact Paired.appP (Paired.appP (Paired.takeP k (Paired.mapP prs fun b x e => sm07 _ _ e)) (.cons (sm27 _ _ h2) .nil)) (Paired.dropP k (Paired.mapP prs fun b x e => sm07 _ _ e))
  refine ⟨_, rfl, _, rfl, size2 (by simp), fun t8 f_t8 => ?_⟩
  have sm8 : Same H7 (upd H7 t8 (.tup [V.str "even", V.ref a5])) := same_new (Same.refl _) f_t8
  have h8 : upd H7 t8 (.tup [V.str "even", V.ref a5]) t8 = some (.tup [V.str "even", V.ref a5]) := upd_same
  generalize upd H7 t8 (.tup [V.str "even", V.ref a5]) = H8 at sm8 h8 ⊢
  refine ⟨l, t8, a5, a, ⟨true, rows.take k ++ [(odd, cell / 7 % n, cell / 11 % 2)] ++ rows.drop k, []⟩, n, ps, false, rfl, (sm07.trans sm8).seq hl, h8, .inl ⟨rfl, trS.same sm8⟩, la, n1, by omega, hp, mo_ev, ⟨fun z => (by cases z), fun z => ?_⟩, fun H9 sm9 => ⟨true, rfl, iteF ?_⟩⟩
  · exact absurd ((ev_pp.mp z).1 (odd, cell / 7 % n, cell / 11 % 2) (by simp)) (Hd.odd_no hp n2 oddc)
  have sm09 := (sm07.trans sm8).trans sm9
  clear trS h7 h6 h5 h4 h3 h2 h1 hodd
  -- bent
  refine ⟨_, rfl, l, _, rfl, .inl (sm09.seq hl), fun be hbe => ?_⟩
  have smA : Same H9 (upd H9 be (.lst (a.map V.int))) := same_new (Same.refl _) hbe
  have hA : upd H9 be (.lst (a.map V.int)) be = some (.lst (a.map V.int)) := upd_same
  generalize upd H9 be (.lst (a.map V.int)) = HA at smA hA ⊢
  try dsimp only [gName, List.set_cons_succ, List.set_cons_zero]
  have be0 : H be = none := sm09.free hbe
  have sm0A := sm09.trans smA
  refine ⟨_, rfl, _, _, rfl, rfl, div_small (by decide) (by decide), _, rfl, _, _, rfl, rfl, (show (0 : Int) < n by omega), ?_⟩
  have s0 := Int.emod_nonneg (cell / 13) (show (n : Int) ≠ 0 by omega)
  have s1 := Int.emod_lt_of_pos (cell / 13) (show (0 : Int) < n by omega)
  dsimp only
  generalize cell / 13 % (n : Int) = spot at s0 s1 ⊢
  try dsimp only [gName, List.set_cons_succ, List.set_cons_zero]
  refine ⟨_, rfl, _, rfl, be, _, _, _, rfl, rfl, SqL.of hA, atI_k s0 (by omega), _, _, rfl, rfl, _, rfl, _, _, rfl, rfl, div_small (by decide) (by decide), _, _, rfl, rfl, pw, _, _, rfl, rfl, (by show (0 : Int) < _; decide), _, _, rfl, rfl, _, rfl, _, rfl, be, _, _, _, rfl, rfl, hA, ixN_in s0 (by rw [mlen la]; exact s1), ?_⟩
  rw [set_int]
  dsimp only
  have m0 := Int.emod_nonneg (cell / 17) (show (10 ^ (20 : Int).toNat : Int) ≠ 0 by decide)
  generalize cell / 17 % 10 ^ (20 : Int).toNat = more at m0 ⊢
  obtain ⟨bb, hbb⟩ : ∃ bb, bb = a.set spot.toNat (Ld.at' a spot + 1 + more) := ⟨_, rfl⟩
  rw [← hbb]
  have lbb : bb.length = n := by rw [hbb, List.length_set, la]
  have smB : Same H (upd HA be (.lst (bb.map V.int))) := same_upd sm0A be0
  have hB : upd HA be (.lst (bb.map V.int)) be = some (.lst (bb.map V.int)) := upd_same
  generalize upd HA be (.lst (bb.map V.int)) = HB at smB hB ⊢
  try dsimp only [gName, List.set_cons_succ, List.set_cons_zero]
  refine ⟨_, rfl, _, rfl, size2 (by simp), fun tC f_tC => ?_⟩
  have smC : Same HB (upd HB tC (.tup [V.str "even", V.ref r])) := same_new (Same.refl _) f_tC
  have hC : upd HB tC (.tup [V.str "even", V.ref r]) tC = some (.tup [V.str "even", V.ref r]) := upd_same
  generalize upd HB tC (.tup [V.str "even", V.ref r]) = HC at smC hC ⊢
  have sm0C := smB.trans smC
  refine ⟨be, tC, r, bb, ⟨true, rows, []⟩, n, ps, false, rfl, SqL.of (smC _ _ hB), hC, .inl ⟨rfl, tr.same sm0C⟩, lbb, n1, by omega, hp, mo_ev, ⟨fun z => (by cases z), fun z => ?_⟩, fun HD smD => ⟨true, rfl, iteF ?_⟩⟩
  · exfalso
    have e := (ev_pp.mp z).2 spot
    have e2 := Ld.at_set la (by omega) spot (Ld.at' a spot + 1 + more) spot
    rw [Int.emod_eq_of_lt s0 s1, if_pos rfl, ← hbb] at e2
    rw [e2, ← av] at e
    omega
  have sm0D := sm0C.trans smD
  -- the end of the rows
  refine ⟨_, rfl, _, rfl, r, _, rfl, .inl (SqL.of (sm0D _ _ hrs)), rfl, _, rfl, ite2 (fun c => ?_) (fun c => ?_)⟩
  · exact q _ sm0D
  have klt : k < rs.length := by have := nvint c; rw [List.length_map] at this; omega
  obtain ⟨⟨p, hole, many⟩, erow, hat⟩ := paired_get prs (List.getElem?_eq_getElem klt)
  have ror := rok.2 _ (List.mem_of_getElem? erow)
  dsimp only at ror hat
  obtain ⟨pm, ho0, ho1, _⟩ := ror
  obtain ⟨x, hx, ex⟩ := List.mem_map.mp pm
  have p2 : 2 ≤ p := by rw [← ex]; exact (hp.row x hx).pr.1
  have pd : p ∣ (n : Int) := by rw [← ex]; exact ((Pt.part_iff hp x).mp hx).2.1
  have pn := Int.le_of_dvd (by omega) pd
  have np0 : 0 ≤ (n : Int) / p := Int.ediv_nonneg (by omega) (by omega)
  have np1 : (n : Int) / p ≤ n := Int.ediv_le_self _ (by omega)
  refine ⟨_, rfl, _, rfl, r, _, _, _, rfl, rfl, SqL.of (sm0D _ _ hrs), atR (List.getElem?_eq_getElem klt), ?_⟩
  refine ⟨_, _, rfl, SqT.of (sm0D _ _ hat), rfl, _, _, rfl, _, _, rfl, _, _, rfl, rfl, ?_⟩
  try dsimp only [gName, List.set_cons_succ, List.set_cons_zero]
  -- around
  refine ⟨_, rfl, _, rfl, _, rfl, _, rfl, _, _, rfl, rfl, div_small (by omega) (by omega), _, rfl, _, _, rfl, rfl, div_small (by decide) (by decide), _, _, rfl, rfl, (by show (0 : Int) < _; decide), _, _, rfl, rfl, _, _, rfl, rfl, mul_small (by omega) (by omega), _, _, rfl, rfl, _, rfl, size2 (by simp), fun ar f_ar => ?_⟩
  have smE : Same HD (upd HD ar (.tup [V.int p, V.int (hole + (n : Int) / p * (cell / 19 % 7 - 3)), V.int many])) := same_new (Same.refl _) f_ar
  have hE : upd HD ar (.tup [V.int p, V.int (hole + (n : Int) / p * (cell / 19 % 7 - 3)), V.int many]) ar = some (.tup [V.int p, V.int (hole + (n : Int) / p * (cell / 19 % 7 - 3)), V.int many]) := upd_same
  generalize upd HD ar (.tup [V.int p, V.int (hole + (n : Int) / p * (cell / 19 % 7 - 3)), V.int many]) = HE at smE hE ⊢
  try dsimp only [gName, List.set_cons_succ, List.set_cons_zero]
  have sm0E := sm0D.trans smE
  refine ⟨_, rfl, _, rfl, _, _, rfl, rfl, _, rfl, r, _, rfl, SqL.of (sm0E _ _ hrs), fun b1 f_b1 => ?_⟩
  have smF : Same HE (upd HE b1 (.lst (cutV (rs.map V.ref) (some ((k : Int) + 1)) none))) := same_new (Same.refl _) f_b1
  have hF : upd HE b1 (.lst (cutV (rs.map V.ref) (some ((k : Int) + 1)) none)) b1 = some (.lst ((rs.drop (k + 1)).map V.ref)) := by rw [upd_same]; exact congrArg (fun z => some (L2.HO.lst z)) (cF (k := k + 1) klt)
  generalize upd HE b1 (.lst (cutV (rs.map V.ref) (some ((k : Int) + 1)) none)) = HF at smF hF ⊢
  refine ⟨b1, _, rfl, SqL.of hF, fun b2 f_b2 => ?_⟩
  have smG : Same HF (upd HF b2 (.lst ((rs.drop (k + 1)).map V.ref).reverse)) := same_new (Same.refl _) f_b2
  have hG : upd HF b2 (.lst ((rs.drop (k + 1)).map V.ref).reverse) b2 = some (.lst ((rs.drop (k + 1)).map V.ref).reverse) := upd_same
  generalize upd HF b2 (.lst ((rs.drop (k + 1)).map V.ref).reverse) = HG at smG hG ⊢
  refine ⟨_, rfl, size2 (by simp), fun b3 f_b3 => ?_⟩
  have smI : Same HG (upd HG b3 (.lst [V.ref ar])) := same_new (Same.refl _) f_b3
  have hI : upd HG b3 (.lst [V.ref ar]) b3 = some (.lst [V.ref ar]) := upd_same
  generalize upd HG b3 (.lst [V.ref ar]) = HI at smI hI ⊢
  refine ⟨_, _, _, _, rfl, rfl, (smI _ _ hG), hI, size2 (by simp; omega), fun b4 f_b4 => ?_⟩
  have smJ : Same HI (upd HI b4 (.lst (((rs.drop (k + 1)).map V.ref).reverse ++ [V.ref ar]))) := same_new (Same.refl _) f_b4
  have hJ : upd HI b4 (.lst (((rs.drop (k + 1)).map V.ref).reverse ++ [V.ref ar])) b4 = some (.lst (((rs.drop (k + 1)).map V.ref).reverse ++ [V.ref ar])) := upd_same
  generalize upd HI b4 (.lst (((rs.drop (k + 1)).map V.ref).reverse ++ [V.ref ar])) = HJ at smJ hJ ⊢
  have smEJ := ((smF.trans smG).trans smI).trans smJ
  refine ⟨_, rfl, _, rfl, _, rfl, r, _, rfl, SqL.of (smEJ _ _ (sm0E _ _ hrs)), fun b5 f_b5 => ?_⟩
  have smK : Same HJ (upd HJ b5 (.lst (cutV (rs.map V.ref) none (some (k : Int))))) := same_new (Same.refl _) f_b5
  have hK : upd HJ b5 (.lst (cutV (rs.map V.ref) none (some (k : Int)))) b5 = some (.lst ((rs.take k).map V.ref)) := by rw [upd_same]; exact congrArg (fun z => some (L2.HO.lst z)) (cT (Nat.le_of_lt klt))
  generalize upd HJ b5 (.lst (cutV (rs.map V.ref) none (some (k : Int)))) = HK at smK hK ⊢
  refine ⟨_, _, _, _, rfl, rfl, (smK _ _ hJ), hK, size2 (by simp; omega), fun b6 f_b6 => ?_⟩
  have smL : Same HK (upd HK b6 (.lst (((rs.drop (k + 1)).map V.ref).reverse ++ [V.ref ar] ++ (rs.take k).map V.ref))) := same_new (Same.refl _) f_b6
  have hL : upd HK b6 (.lst (((rs.drop (k + 1)).map V.ref).reverse ++ [V.ref ar] ++ (rs.take k).map V.ref)) b6 = some (.lst (((rs.drop (k + 1)).map V.ref).reverse ++ [V.ref ar] ++ (rs.take k).map V.ref)) := upd_same
  generalize upd HK b6 (.lst (((rs.drop (k + 1)).map V.ref).reverse ++ [V.ref ar] ++ (rs.take k).map V.ref)) = HL at smL hL ⊢
  try dsimp only [gName, List.set_cons_succ, List.set_cons_zero]
  have smEL := (smEJ.trans smK).trans smL
  have sm0L := sm0E.trans smEL
  have trA : TrAt HL b6 ((rows.drop (k + 1)).reverse ++ [(p, hole + (n : Int) / p * (cell / 19 % 7 - 3), many)] ++ rows.take k) := by
    refine ⟨(rs.drop (k + 1)).reverse ++ [ar] ++ rs.take k, by rw [hL, List.map_append, List.map_append, List.map_reverse]; rfl, ?_⟩
    exact Paired.appP (Paired.appP (Paired.revP (Paired.dropP (k + 1) (Paired.mapP prs fun b x e => sm0L _ _ e))) (.cons (smEL _ _ hE) .nil)) (Paired.takeP k (Paired.mapP prs fun b x e => sm0L _ _ e))
  have okT : ∀ y ∈ rows.take k, y.1 ∈ ps.map Prod.fst := fun y hy => (rok.2 y (List.mem_of_mem_take hy)).1
  have okD : ∀ y ∈ rows.drop (k + 1), y.1 ∈ ps.map Prod.fst := fun y hy => (rok.2 y (List.mem_of_mem_drop hy)).1
  have sp := fun x => Hd.rvs_at (n := n) erow x
  refine ⟨_, rfl, _, rfl, size2 (by simp), fun tM f_tM => ?_⟩
  have smM : Same HL (upd HL tM (.tup [V.str "even", V.ref b6])) := same_new (Same.refl _) f_tM
  have hM : upd HL tM (.tup [V.str "even", V.ref b6]) tM = some (.tup [V.str "even", V.ref b6]) := upd_same
  generalize upd HL tM (.tup [V.str "even", V.ref b6]) = HM at smM hM ⊢
  refine ⟨l, tM, b6, a, ⟨true, (rows.drop (k + 1)).reverse ++ [(p, hole + (n : Int) / p * (cell / 19 % 7 - 3), many)] ++ rows.take k, []⟩, n, ps, true, rfl, (sm0L.trans smM).seq hl, hM, .inl ⟨rfl, trA.same smM⟩, la, n1, by omega, hp, mo_ev, ⟨fun _ => ev_pp.mpr ⟨fun y hy => ?_, fun x => ?_⟩, fun _ => rfl⟩, fun HN smN => ⟨true, rfl, iteF ?_⟩⟩
  · rcases List.mem_append.mp hy with w | w
    · rcases List.mem_append.mp w with w | w
      · exact okD y (List.mem_reverse.mp w)
      · rw [List.mem_singleton.mp w]; exact pm
    · exact okT y w
  · rw [av, sp, Sk.rvs_app, Sk.rvs_app, Hd.rvs_rev, Hd.rvs_one, Hd.rv_around]; omega
  have sm0N := (sm0L.trans smM).trans smN
  clear trA hL hK hJ hI hG hF
  -- parted
  refine ⟨_, rfl, _, rfl, _, rfl, r, _, rfl, SqL.of (sm0N _ _ hrs), fun c1 f_c1 => ?_⟩
  have smO : Same HN (upd HN c1 (.lst (cutV (rs.map V.ref) none (some (k : Int))))) := same_new (Same.refl _) f_c1
  have hO : upd HN c1 (.lst (cutV (rs.map V.ref) none (some (k : Int)))) c1 = some (.lst ((rs.take k).map V.ref)) := by rw [upd_same]; exact congrArg (fun z => some (L2.HO.lst z)) (cT (Nat.le_of_lt klt))
  generalize upd HN c1 (.lst (cutV (rs.map V.ref) none (some (k : Int)))) = HO at smO hO ⊢
  refine ⟨_, rfl, _, rfl, _, rfl, _, _, rfl, rfl, size2 (by simp), fun c2 f_c2 => ?_⟩
  have smP : Same HO (upd HO c2 (.tup [V.int p, V.int hole, V.int (many - 1)])) := same_new (Same.refl _) f_c2
  have hP : upd HO c2 (.tup [V.int p, V.int hole, V.int (many - 1)]) c2 = some (.tup [V.int p, V.int hole, V.int (many - 1)]) := upd_same
  generalize upd HO c2 (.tup [V.int p, V.int hole, V.int (many - 1)]) = HP at smP hP ⊢
  refine ⟨size2 (by simp), fun c3 f_c3 => ?_⟩
  have smR : Same HP (upd HP c3 (.lst [V.ref c2])) := same_new (Same.refl _) f_c3
  have hR : upd HP c3 (.lst [V.ref c2]) c3 = some (.lst [V.ref c2]) := upd_same
  generalize upd HP c3 (.lst [V.ref c2]) = HR at smR hR ⊢
  refine ⟨_, _, _, _, rfl, rfl, (smR _ _ (smP _ _ hO)), hR, size2 (by simp; omega), fun c4 f_c4 => ?_⟩
  have smS : Same HR (upd HR c4 (.lst ((rs.take k).map V.ref ++ [V.ref c2]))) := same_new (Same.refl _) f_c4
  have hS : upd HR c4 (.lst ((rs.take k).map V.ref ++ [V.ref c2])) c4 = some (.lst ((rs.take k).map V.ref ++ [V.ref c2])) := upd_same
  generalize upd HR c4 (.lst ((rs.take k).map V.ref ++ [V.ref c2])) = HS at smS hS ⊢
  have smNS := ((smO.trans smP).trans smR).trans smS
  refine ⟨_, rfl, _, rfl, _, _, rfl, rfl, _, rfl, r, _, rfl, SqL.of (smNS _ _ (sm0N _ _ hrs)), fun c5 f_c5 => ?_⟩
  have smT : Same HS (upd HS c5 (.lst (cutV (rs.map V.ref) (some ((k : Int) + 1)) none))) := same_new (Same.refl _) f_c5
  have hT : upd HS c5 (.lst (cutV (rs.map V.ref) (some ((k : Int) + 1)) none)) c5 = some (.lst ((rs.drop (k + 1)).map V.ref)) := by rw [upd_same]; exact congrArg (fun z => some (L2.HO.lst z)) (cF (k := k + 1) klt)
  generalize upd HS c5 (.lst (cutV (rs.map V.ref) (some ((k : Int) + 1)) none)) = HT at smT hT ⊢
  refine ⟨_, _, _, _, rfl, rfl, (smT _ _ hS), hT, size2 (by simp; omega), fun c6 f_c6 => ?_⟩
  have smU : Same HT (upd HT c6 (.lst ((rs.take k).map V.ref ++ [V.ref c2] ++ (rs.drop (k + 1)).map V.ref))) := same_new (Same.refl _) f_c6
  have hU : upd HT c6 (.lst ((rs.take k).map V.ref ++ [V.ref c2] ++ (rs.drop (k + 1)).map V.ref)) c6 = some (.lst ((rs.take k).map V.ref ++ [V.ref c2] ++ (rs.drop (k + 1)).map V.ref)) := upd_same
  generalize upd HT c6 (.lst ((rs.take k).map V.ref ++ [V.ref c2] ++ (rs.drop (k + 1)).map V.ref)) = HU at smU hU ⊢
  try dsimp only [gName, List.set_cons_succ, List.set_cons_zero]
  have smNU := (smNS.trans smT).trans smU
  have sm0U := sm0N.trans smNU
  have asP : HU c6 = some (.lst ((rs.take k ++ [c2] ++ rs.drop (k + 1)).map V.ref)) := by rw [hU, List.map_append, List.map_append]; rfl
  have prP : Paired (fun a (x : Int × Int × Int) => HU a = some (.tup [.int x.1, .int x.2.1, .int x.2.2])) (rs.take k ++ [c2] ++ rs.drop (k + 1)) (rows.take k ++ [(p, hole, many - 1)] ++ rows.drop (k + 1)) :=
    Paired.appP (Paired.appP (Paired.takeP k (Paired.mapP prs fun b x e => sm0U _ _ e)) (.cons (((((smR.trans smS).trans smT).trans smU)) _ _ hP) .nil)) (Paired.dropP (k + 1) (Paired.mapP prs fun b x e => sm0U _ _ e))
  have less := fun x => Hd.rv_less n p hole many x
  refine ⟨_, rfl, _, rfl, size2 (by simp), fun tV f_tV => ?_⟩
  have smV : Same HU (upd HU tV (.tup [V.str "even", V.ref c6])) := same_new (Same.refl _) f_tV
  have hV : upd HU tV (.tup [V.str "even", V.ref c6]) tV = some (.tup [V.str "even", V.ref c6]) := upd_same
  generalize upd HU tV (.tup [V.str "even", V.ref c6]) = HV at smV hV ⊢
  refine ⟨l, tV, c6, a, ⟨true, rows.take k ++ [(p, hole, many - 1)] ++ rows.drop (k + 1), []⟩, n, ps, false, rfl, (sm0U.trans smV).seq hl, hV, .inl ⟨rfl, TrAt.same ⟨_, asP, prP⟩ smV⟩, la, n1, by omega, hp, mo_ev, ⟨fun z => (by cases z), fun z => ?_⟩, fun HW smW => ⟨true, rfl, iteF ?_⟩⟩
  · exfalso
    have e := (ev_pp.mp z).2 hole
    have e2 := less hole
    have e3 := sp hole
    rw [Hd.rv_self n p hole 1] at e2
    rw [av, Sk.rvs_app, Sk.rvs_app, Hd.rvs_one] at e
    omega
  have smUW := smV.trans smW
  have sm0W := sm0U.trans smUW
  -- parted and put together again
  refine ⟨_, rfl, _, rfl, _, rfl, _, rfl, _, rfl, _, _, rfl, rfl, size2 (by simp), fun d1 f_d1 => ?_⟩
  have smX : Same HW (upd HW d1 (.tup [V.int p, V.int (hole - n), V.int 1])) := same_new (Same.refl _) f_d1
  have hX : upd HW d1 (.tup [V.int p, V.int (hole - n), V.int 1]) d1 = some (.tup [V.int p, V.int (hole - n), V.int 1]) := upd_same
  generalize upd HW d1 (.tup [V.int p, V.int (hole - n), V.int 1]) = HX at smX hX ⊢
  refine ⟨size2 (by simp), fun d2 f_d2 => ?_⟩
  have smY : Same HX (upd HX d2 (.lst [V.ref d1])) := same_new (Same.refl _) f_d2
  have hY : upd HX d2 (.lst [V.ref d1]) d2 = some (.lst [V.ref d1]) := upd_same
  generalize upd HX d2 (.lst [V.ref d1]) = HY at smY hY ⊢
  refine ⟨_, _, _, _, rfl, rfl, (smY _ _ (smX _ _ (smUW _ _ asP))), hY, size2 (by simp; omega), fun d3 f_d3 => ?_⟩
  have smZ : Same HY (upd HY d3 (.lst ((rs.take k ++ [c2] ++ rs.drop (k + 1)).map V.ref ++ [V.ref d1]))) := same_new (Same.refl _) f_d3
  have hZ : upd HY d3 (.lst ((rs.take k ++ [c2] ++ rs.drop (k + 1)).map V.ref ++ [V.ref d1])) d3 = some (.lst ((rs.take k ++ [c2] ++ rs.drop (k + 1)).map V.ref ++ [V.ref d1])) := upd_same
  generalize upd HY d3 (.lst ((rs.take k ++ [c2] ++ rs.drop (k + 1)).map V.ref ++ [V.ref d1])) = HZ at smZ hZ ⊢
  have smUZ := ((smUW.trans smX).trans smY).trans smZ
  have trZ : TrAt HZ d3 (rows.take k ++ [(p, hole, many - 1)] ++ rows.drop (k + 1) ++ [(p, hole - n, 1)]) := by
    refine ⟨rs.take k ++ [c2] ++ rs.drop (k + 1) ++ [d1], by rw [hZ, List.map_append (l₂ := [d1])]; rfl, ?_⟩
    exact Paired.appP (Paired.mapP prP fun b x e => smUZ _ _ e) (.cons ((smY.trans smZ) _ _ hX) .nil)
  refine ⟨size2 (by simp), fun d4 f_d4 => ?_⟩
  have sm10 : Same HZ (upd HZ d4 (.tup [V.str "even", V.ref d3])) := same_new (Same.refl _) f_d4
  have h10 : upd HZ d4 (.tup [V.str "even", V.ref d3]) d4 = some (.tup [V.str "even", V.ref d3]) := upd_same
  generalize upd HZ d4 (.tup [V.str "even", V.ref d3]) = H10 at sm10 h10 ⊢
  refine ⟨l, d4, d3, a, ⟨true, rows.take k ++ [(p, hole, many - 1)] ++ rows.drop (k + 1) ++ [(p, hole - n, 1)], []⟩, n, ps, true, rfl, ((sm0U.trans smUZ).trans sm10).seq hl, h10, .inl ⟨rfl, trZ.same sm10⟩, la, n1, by omega, hp, mo_ev, ⟨fun _ => ev_pp.mpr ⟨fun y hy => ?_, fun x => ?_⟩, fun _ => rfl⟩, fun H11 sm11 => q _ (((sm0U.trans smUZ).trans sm10).trans sm11)⟩
  · rcases List.mem_append.mp hy with w | w
    · rcases List.mem_append.mp w with w | w
      · rcases List.mem_append.mp w with w | w
        · exact okT y w
        · rw [List.mem_singleton.mp w]; exact pm
      · exact okD y w
    · rw [List.mem_singleton.mp w]; exact pm
  · have e2 := less x
    rw [av, sp, Sk.rvs_app, Sk.rvs_app, Sk.rvs_app, Hd.rvs_one, Hd.rvs_one, Hd.rv_back p2 pd]; omega

def spWts (K : PySem.W.Frag) : Sp := fun vs H Q _ => ∃ (s : Addr) (ns : List Int) (n : Nat) (ps : List (Int × Int)) (l : List ((Int × Int) × Int)), vs = [.ref s, .int n] ∧ SqL K H s (ns.map V.int) ∧ ns.length ≤ 63 ∧ 1 ≤ n ∧ n ≤ 420 ∧ Rt.Ld' n ps l ∧
  ∀ t H' W, Same H H' → H t = none → H' t = some (.lst (W.map V.int)) → W.length = n → Ld.Bd (2 ^ 206) W → Hd.RZ n ps (Ld.at' W) → Q (.ref t) H'
theorem ok_law_weights (T : Txt K mg C_NoRing) : Df P w K mg base 3 "_law_weights" ["script", "n"] (spWts K) := by
  have D_law_kept := ok_law_kept (P := P) (w := w) (base := base) T
  have D_law_tables := ok_law_tables (P := P) (w := w) (base := base) T
  have D_law_number := ok_law_number (P := P) (w := w) (base := base) T
  have D_law_lean := ok_law_lean (P := P) (w := w) (base := base) T
  refine T.d_law_weights.ok sc_law_weights (fun vs H Q E h => ?_) (fun f cdv A outer s H vs Q E hr h => ?_)
  · obtain ⟨_, _, _, _, _, rfl, _⟩ := h; rfl
  obtain ⟨sc, ns, n, ps, l, rfl, hs, h63, n1, n2, lds, q⟩ := h
  have nd := sc_law_weights.nd
  refine ⟨_, (pss_cons (ps_set (i := 2) nd rfl (Or.inl rfl) (pe_def D_law_kept (hr.mono (by decide)) (by rfl) (pa_cons (pv 1) pa_nil))) (pss_cons (ps_set (i := 3) nd rfl (Or.inl rfl) (pe_def D_law_tables (hr.mono (by decide)) (by rfl) (pa_cons (pv 1) pa_nil))) (pss_cons (ps_set (i := 4) nd rfl (Or.inl rfl) (pe_op op_rep (pe_lst (pa_cons pe_int pa_nil)) (pv 1))) (pss_cons (ps_for PassesOwn.never rfl (pi_list (pe_slice sl_list (pv 0) (po_some pe_int) (po_some pe_int))) (pg_name (i := 5) nd rfl (Or.inl rfl)) (pss_cons (ps_set (i := 6) nd rfl (Or.inl rfl) (pe_ix ix_list (pv 2) (pe_op op_mod (pe_op op_fdivB (pv 5) pe_int) (pe_callB call_len_seq (by rfl) T.b_len L2.bi_len (pa_cons (pv 2) pa_nil))) (fun _ _ => rfl))) (pss_cons (ps_set (i := 7) nd rfl (Or.inl rfl) (pe_def D_law_number (hr.mono (by decide)) (by rfl) (pa_cons (pe_op op_fdivB (pv 5) pe_int) pa_nil))) (pss_one (ps_for PassesOwn.never rfl (pi_range1 (by rfl) T.b_range (pa_cons (pv 1) pa_nil)) (pg_name (i := 8) nd rfl (Or.inl rfl)) (pss_one (ps_asg (pe_op op_add (pe_ix ix_list (pv 4) (pv 8) (fun _ _ => rfl)) (pe_op op_mulB (pv 7) (pe_def D_law_lean (hr.mono (by decide)) (by rfl) (pa_cons (pv 3) (pa_cons (pv 6) (pa_cons (pv 8) pa_nil)))))) (pg_sub (pv 4) (pv 8) set_list)))))))) (pss_one (ps_ret (pv 4))))))), ?_⟩
  refine ⟨_, rfl, n, ps, l, rfl, n1, n2, lds, fun so H1 sm1 _ h1 => ?_⟩
  refine ⟨_, rfl, n, ps, l, rfl, n1, n2, lds, fun tb H2 sm2 _ ht2 => ?_⟩
  have smA := sm1.trans sm2
  have h12 := sm2 _ _ h1
  refine ⟨(by show 1 ≤ sizeLine; decide), fun l0 hl0 => ⟨_, rfl, l0, _, _, rfl, rfl, upd_same, by omega, by omega, (by show 1 * _ ≤ _; exact size2 (by omega)), fun du hdu => ?_⟩⟩
  rw [rep0]
  have ldu : l0 ≠ du := ne_of_none upd_same hdu
  have du0 : H2 du = none := by rwa [upd_ne (Ne.symm ldu)] at hdu
  have sm3 : Same H2 (upd (upd H2 l0 (.lst [V.int 0])) du (.lst ((List.replicate n (0 : Int)).map V.int))) := same_upd (same_upd (Same.refl H2) hl0) du0
  have hd0 : upd (upd H2 l0 (.lst [V.int 0])) du (.lst ((List.replicate n (0 : Int)).map V.int)) du = some (.lst ((List.replicate n (0 : Int)).map V.int)) := upd_same
  generalize upd (upd H2 l0 (.lst [V.int 0])) du (.lst ((List.replicate n (0 : Int)).map V.int)) = H3 at sm3 hd0 ⊢
  have smB := smA.trans sm3
  have so3 := sm3 _ _ h12
  have tb3 := ht2.same sm3
  have sod : so ≠ du := fun z => by rw [z, du0] at h12; cases h12
  have du1 : H du = none := smA.free du0
  obtain ⟨ms, em, lm⟩ := cut_map ns (some 2) (some 6)
  refine ⟨_, rfl, _, rfl, _, rfl, sc, _, rfl, smB.seq hs, fun c hc => ⟨c, rfl, ⟨_, SqL.of upd_same⟩, ?_⟩⟩
  rw [em]
  have smc : Same H3 (upd H3 c (.lst (ms.map V.int))) := same_new (Same.refl _) hc
  have hc4 : upd H3 c (.lst (ms.map V.int)) c = some (.lst (ms.map V.int)) := upd_same
  have ncd : c ≠ du := fun z => by rw [z, hd0] at hc; cases hc
  have hd4 := smc _ _ hd0
  generalize upd H3 c (.lst (ms.map V.int)) = H4 at smc hc4 hd4 ⊢
  have kpos := lds.kps_pos
  have slen : ((Rt.kps n l).map V.int).length = (Rt.kps n l).length := List.length_map ..
  refine for_list (xs := ms.map V.int) (fun i σ H5 => (∀ c o, c ≠ du → H4 c = some o → H5 c = some o) ∧ ∃ (W : List Int) (o1 o2 o3 o4 : Option V), σ = [some (.ref sc), some (.int n), some (.ref so), some (.ref tb), some (.ref du), o1, o2, o3, o4] ∧ H5 du = some (.lst (W.map V.int)) ∧ W.length = n ∧ Ld.Bd (i * 2 ^ 200) W ∧ Hd.RZ n ps (Ld.at' W))
    ⟨fun _ _ _ h => h, List.replicate n 0, none, none, none, none, rfl, hd4, by simp, fun x hx => (by rw [(List.mem_replicate.mp hx).2]; simp), Hd.RZ.zero.congr fun x _ _ => by rw [Ld.at_rep]⟩ (fun i σ H5 _ z => SqL.of (z.1 _ _ ncd hc4)) ?_ ?_
  · rintro i xv σ H5 hx ⟨kp5, W, o1, o2, o3, o4, rfl, h5, lW, bW, rz⟩
    obtain ⟨cell, rfl, hcell⟩ := int_at hx
    have so5 := kp5 _ _ sod (smc _ _ so3)
    have sm45 : ∀ c o, H2 c = some o → H5 c = some o := fun c o h => kp5 c o (fun z => by rw [z, du0] at h; cases h) (smc _ _ (sm3 _ _ h))
    have at1 := atI_mod (a := Rt.kps n l) (n := (Rt.kps n l).length) rfl kpos (cell / 23)
    have km := Ld.at_mem (a := Rt.kps n l) kpos (cell / 23)
    refine ⟨_, rfl, _, rfl, _, _, rfl, rfl, div_small (by decide) (by decide), _, rfl, so, _, rfl, .inl (SqL.of so5), _, _, rfl, rfl, (by rw [slen]; omega), so, _, _, _, rfl, rfl, SqL.of so5, by rw [slen]; exact at1, ?_⟩
    generalize Ld.at' (Rt.kps n l) (cell / 23) = hole at km ⊢
    have hk := (Rt.kps_mem.mp km).2
    refine ⟨_, rfl, _, _, rfl, rfl, div_small (by decide) (by decide), _, rfl, fun many hm => ?_⟩
    refine ⟨_, rfl, _, rfl, by omega, by omega, ?_⟩
    rw [Int.toNat_natCast]
    refine for_range0 (fun k σ H6 => (∀ c o, c ≠ du → H4 c = some o → H6 c = some o) ∧ ∃ (U : List Int) (o4 : Option V), σ = [some (.ref sc), some (.int n), some (.ref so), some (.ref tb), some (.ref du), some (.int cell), some (.int hole), some (.int many), o4] ∧ H6 du = some (.lst (U.map V.int)) ∧ U.length = n ∧ ∀ x : Nat, x < n → Ld.at' U x = Ld.at' W x + if x < k then many * Rt.V l hole x else 0)
      ⟨kp5, W, _, rfl, h5, lW, fun x _ => by rw [if_neg (Nat.not_lt_zero _), Int.add_zero]⟩ ?_ ?_
    · rintro k σ H6 hk' ⟨kp6, U, o4, rfl, h6, lU, inv⟩
      have tb6 : TbAt H6 tb l := ht2.same fun c o h => kp6 c o (fun z => by rw [z, du0] at h; cases h) (smc _ _ (sm3 _ _ h))
      have vb := Rt.V_cases l hole k
      refine ⟨_, rfl, _, rfl, du, _, _, _, rfl, rfl, SqL.of h6, atI_k (by omega) (by omega), _, rfl, _, rfl, _, rfl, _, rfl, tb, l, n, ps, hole, k, rfl, n2, tb6, lds, _, _, rfl, rfl, IntMulOk.of_right (intBits_le_64 (by omega) (by omega)), _, _, rfl, rfl, _, rfl, _, rfl, du, _, _, _, rfl, rfl, h6, ixN_in (by omega) (by rw [mlen lU]; omega), ?_⟩
      rw [set_int]
      refine ⟨fun c o ne h => (upd_ne ne).trans (kp6 c o ne h), _, _, rfl, upd_same, by rw [List.length_set, lU], fun x hx => ?_⟩
      have e := Ld.at_set lU (by omega) (k : Int) (Ld.at' U k + many * Rt.V l hole k) x
      rw [Int.emod_eq_of_lt (a := (k : Int)) (b := (n : Int)) (by omega) (by omega), Int.emod_eq_of_lt (a := (x : Int)) (b := (n : Int)) (by omega) (by omega)] at e
      rw [e]
      by_cases c1 : x = k
      · subst c1
        rw [if_pos rfl, if_pos (by omega), inv x hx, if_neg (by omega)]; omega
      · rw [if_neg (by omega), inv x hx]
        by_cases c2 : x < k
        · rw [if_pos c2, if_pos (by omega)]
        · rw [if_neg c2, if_neg (by omega)]
    · rintro σ H6 ⟨kp6, U, o4, rfl, h6, lU, inv⟩
      refine ⟨kp6, U, _, _, _, _, rfl, h6, lU, Ld.bd_of fun x hx => ?_, ?_⟩
      · rw [inv x (by omega), if_pos (by omega)]
        have b1 := Ld.at_bd bW x
        have vb := Rt.V_cases l hole x
        have b2 : (many * Rt.V l hole x).natAbs ≤ 2 ^ 200 := by
          rw [Int.natAbs_mul]
          rcases vb with e | e | e <;> rw [e] <;> simp <;> omega
        rw [Nat.succ_mul]
        omega
      · refine (rz.add ((Hd.RZ.V lds hk).mul many)).congr fun x x0 x1 => ?_
        have := inv x.toNat (by omega)
        rw [if_pos (by omega), Int.toNat_of_nonneg x0] at this
        exact this
  · rintro σ H5 ⟨kp5, W, o1, o2, o3, o4, rfl, h5, lW, bW, rz⟩
    refine ⟨_, rfl, q du H5 W (fun c o h => kp5 c o (fun z => by rw [z, du1] at h; cases h) (smc _ _ (smB _ _ h))) du1 h5 lW (fun x hx => Nat.le_trans (bW x hx) ?_) rz⟩
    rw [List.length_map]
    exact Nat.le_trans (Nat.mul_le_mul_right _ (show ms.length ≤ 63 by omega)) (by decide +kernel)

def spTwist (K : PySem.W.Frag) : Sp := fun vs H Q _ => ∃ (s o wt : Addr) (ns c W : List Int) (n : Nat) (ps : List (Int × Int)) (k : Int), vs = [.ref s, .ref o, .ref wt, .int k] ∧ SqL K H s (ns.map V.int) ∧ SqL K H o (c.map V.int) ∧ c.length = n ∧ Ld.Bd (2 ^ 206) c ∧ H wt = some (.lst (W.map V.int)) ∧ W.length = n ∧ Ld.Bd (2 ^ 206) W ∧ 2 ≤ n ∧ n ≤ 420 ∧ Pt.Parts n ps ∧ 0 ≤ k ∧ k < n ∧ ∀ H', Same H H' → Q (.bl true) H'
theorem un_pp {n : Nat} {ps : List (Int × Int)} {W : List Int} {a : List Int} : Hh n ps ⟨false, [], W⟩ a ↔ W.length = n ∧ ¬ Ld.S n (fun k => Ld.at' a k * Ld.at' W k) = 0 ∧ Hd.RZ n ps (Ld.at' W) := by unfold Hh; rw [if_neg (show ¬ false = true by decide)]
theorem mo_un {n : Nat} {W a : List Int} {B : Nat} (hb : B ≤ 1000) (bW : Ld.Bd (2 ^ B) W) (ba : Ld.Bd (2 ^ 206) a) : PpMo n ⟨false, [], W⟩ a := fun _ _ k _ => mulB (Ld.at_bd ba k) (Ld.at_bd bW k) (by omega)
theorem bd_set {B : Nat} {a : List Int} {v : Int} (j : Nat) (h : Ld.Bd B a) (hv : v.natAbs ≤ B) : Ld.Bd B (a.set j v) := fun x hx => by
  rcases List.mem_or_eq_of_mem_set hx with w | w
  · exact h x w
  · rw [w]; exact hv
theorem ok_law_twisted_good (T : Txt K mg C_NoRing) : Df P w K mg base 7 "_law_twisted_good" ["script", "other", "weights", "at"] (spTwist K) := by
  have D_law_primes := ok_law_primes (P := P) (w := w) (base := base) T
  have D_law_cell := ok_law_cell (P := P) (w := w) (base := base) T
  have D_law_rings_weigh := ok_law_rings_weigh (P := P) (w := w) (base := base) T
  have D_law_is := ok_law_is (P := P) (w := w) (base := base) T
  refine T.d_law_twisted_good.ok sc_law_twisted_good (fun vs H Q E h => ?_) (fun f cdv A outer s H vs Q E hr h => ?_)
  · obtain ⟨_, _, _, _, _, _, _, _, _, rfl, _⟩ := h; rfl
  obtain ⟨sc, o, wt, ns, c, W, n, ps, k, rfl, hs, ho, lc, bc, hW, lW, bW, n1, n2, hp, k0, k1, q⟩ := h
  have nd := sc_law_twisted_good.nd
  have ne := Sk.parts_ne hp (by omega)
  have pos : 0 < ps.length := by
    rcases Nat.eq_zero_or_pos ps.length with z | z
    · exact absurd (by rw [List.length_eq_zero_iff.mp z]; rfl) ne
    · exact z
  refine ⟨_, (pss_cons (ps_set (i := 4) nd rfl (Or.inl rfl) (pe_callB call_len_seq (by rfl) T.b_len L2.bi_len (pa_cons (pv 2) pa_nil))) (pss_cons (ps_set (i := 5) nd rfl (Or.inl rfl) (pe_def D_law_primes (hr.mono (by decide)) (by rfl) (pa_cons (pv 4) pa_nil))) (pss_cons (ps_set (i := 6) nd rfl (Or.inl rfl) (pe_ix ix_list (pv 5) (pe_op op_mod (pe_op op_fdivB (pe_def D_law_cell (hr.mono (by decide)) (by rfl) (pa_cons (pv 0) (pa_cons pe_int pa_nil))) pe_int) (pe_callB call_len_seq (by rfl) T.b_len L2.bi_len (pa_cons (pv 5) pa_nil))) (fun _ _ => rfl))) (pss_cons (ps_set (i := 7) nd rfl (Or.inr rfl) (pe_callTy call_list_of (by rfl) T.b_list L2.bi_list (pa_cons (pv 2) pa_nil))) (pss_cons (ps_asg (pe_op op_add (pe_ix ix_list (pv 7) (pv 3) (fun _ _ => rfl)) pe_int) (pg_sub (pv 7) (pv 3) set_list)) (pss_cons (ps_asg (pe_op op_sub (pe_ix ix_list (pv 7) (pe_op op_mod (pe_op op_add (pv 3) (pe_op op_fdivB (pv 4) (pv 6))) (pv 4)) (fun _ _ => rfl)) pe_int) (pg_sub (pv 7) (pe_op op_mod (pe_op op_add (pv 3) (pe_op op_fdivB (pv 4) (pv 6))) (pv 4)) set_list)) (pss_cons (ps_set (i := 8) nd rfl (Or.inl rfl) (pe_and (pe_def D_law_rings_weigh (hr.mono (by decide)) (by rfl) (pa_cons (pv 4) (pa_cons (pv 7) pa_nil))) (pe_one (pe_cmpR op_ne (pe_callB (call_sumL rfl) (by rfl) T.b_sum L2.bi_sum (pa_cons (pe_listcomp (cap := [("other", 1), ("twisted", 7)]) (tgs := ["k"])  rfl rfl rfl (by decide +kernel) (by decide +kernel) (free_ok (by rfl)) (sub_cons rfl (sub_cons rfl sub_nil)) (cap_cons ⟨rfl, Or.inl rfl, Or.inl rfl, _, rfl⟩ (cap_cons ⟨rfl, Or.inl rfl, Or.inl rfl, _, rfl⟩ cap_nil)) (leaves_name (by decide)) (pi_range1 (by rfl) T.b_range (pa_cons (pv 4) pa_nil)) (fun C s H fp => ⟨(pg_name (i := 2) (show (["other", "twisted", "k"] : List Str).Nodup by decide +kernel) rfl (Or.inl rfl) (Or.inr rfl)), pts_nil, (pe_op op_mulB (pe_ix (ix_listK (K := K) rfl) (pv 0) (pv 2) (fun _ _ => rfl)) (pe_ix (ix_listK (K := K) rfl) (pv 1) (pv 2) (fun _ _ => rfl)))⟩)) pa_nil)) pe_int (nomark _))))) (pss_one (ps_ret (pe_def D_law_is (hr.mono (by decide)) (by rfl) (pa_cons (pv 1) (pa_cons (pe_tup (pa_cons pe_str (pa_cons (pv 7) pa_nil))) (pa_cons (pv 8) pa_nil))))))))))))), ?_⟩
  refine ⟨_, rfl, wt, _, rfl, .inl (SqL.of hW), ?_⟩
  rw [mlen lW]
  refine ⟨_, rfl, n, rfl, by omega, n2, fun r1 H1 ps1 sm1 f1 h1 hp1 => ?_⟩
  have epp := Pt.parts_one hp1 hp
  subst epp
  have plen : ((ps1.map Prod.fst).map V.int).length = ps1.length := by rw [List.length_map, List.length_map]
  refine ⟨_, rfl, _, rfl, sc, ns, 1, rfl, sm1.seq hs, (by decide), fun v => ⟨_, _, rfl, rfl, div_small (by decide) (by decide), _, rfl, r1, _, rfl, .inl (SqL.of h1), _, _, rfl, rfl, (by rw [plen]; omega), r1, _, _, _, rfl, rfl, SqL.of h1, by rw [plen]; exact atI_mod (a := ps1.map Prod.fst) (n := ps1.length) (by rw [List.length_map]) pos (v / 29), ?_⟩⟩
  have pm := Ld.at_mem (a := ps1.map Prod.fst) (by rw [List.length_map]; exact pos) (v / 29)
  generalize Ld.at' (ps1.map Prod.fst) (v / 29) = p at pm ⊢
  obtain ⟨p2, pd⟩ := prm_pos hp1 p pm
  have pn := Int.le_of_dvd (by omega) pd
  refine ⟨_, rfl, wt, _, rfl, .inl (SqL.of (sm1 _ _ hW)), fun tw htw => ?_⟩
  have sm2 : Same H1 (upd H1 tw (.lst (W.map V.int))) := same_new (Same.refl _) htw
  have h2 : upd H1 tw (.lst (W.map V.int)) tw = some (.lst (W.map V.int)) := upd_same
  generalize upd H1 tw (.lst (W.map V.int)) = H2 at sm2 h2 ⊢
  have tw0 : H tw = none := sm1.free htw
  have sm02 := sm1.trans sm2
  refine ⟨_, rfl, _, rfl, tw, _, _, _, rfl, rfl, SqL.of h2, atI_k k0 (by omega), _, _, rfl, rfl, _, rfl, _, rfl, tw, _, _, _, rfl, rfl, h2, ixN_in k0 (by rw [mlen lW]; exact k1), ?_⟩
  rw [set_int]
  obtain ⟨U, hU⟩ : ∃ U, U = W.set k.toNat (Ld.at' W k + 1) := ⟨_, rfl⟩
  rw [← hU]
  have lU : U.length = n := by rw [hU, List.length_set, lW]
  have bU : Ld.Bd (2 ^ 207) U := by
    rw [hU]
    refine bd_set _ (fun x hx => Nat.le_trans (bW x hx) (by decide +kernel)) ?_
    have := Ld.at_bd bW k
    have e : 2 ^ 206 + 1 ≤ 2 ^ 207 := by decide +kernel
    omega
  have sm3 : Same H (upd H2 tw (.lst (U.map V.int))) := same_upd sm02 tw0
  have h3 : upd H2 tw (.lst (U.map V.int)) tw = some (.lst (U.map V.int)) := upd_same
  generalize upd H2 tw (.lst (U.map V.int)) = H3 at sm3 h3 ⊢
  refine ⟨_, rfl, _, rfl, _, rfl, _, rfl, _, _, rfl, rfl, div_small (by omega) (by omega), _, _, rfl, rfl, _, rfl, _, _, rfl, rfl, (show (0 : Int) < n by omega), tw, _, _, _, rfl, rfl, SqL.of h3, atI_mod lU (by omega) _, _, _, rfl, rfl, _, rfl, _, rfl, _, rfl, _, rfl, _, _, rfl, rfl, div_small (by omega) (by omega), _, _, rfl, rfl, _, rfl, _, _, rfl, rfl, (show (0 : Int) < n by omega), tw, _, _, _, rfl, rfl, h3, ixN_mod (mlen lU) (by omega) _, ?_⟩
  rw [set_int]
  obtain ⟨Y, hY⟩ : ∃ Y, Y = U.set ((k + (n : Int) / p) % n).toNat (Ld.at' U (k + (n : Int) / p) - 1) := ⟨_, rfl⟩
  rw [← hY]
  have lY : Y.length = n := by rw [hY, List.length_set, lU]
  have bY : Ld.Bd (2 ^ 208) Y := by
    rw [hY]
    refine bd_set _ (fun x hx => Nat.le_trans (bU x hx) (by decide +kernel)) ?_
    have := Ld.at_bd bU (k + (n : Int) / p)
    have e : 2 ^ 207 + 1 ≤ 2 ^ 208 := by decide +kernel
    omega
  have sm4 : Same H (upd H3 tw (.lst (Y.map V.int))) := same_upd sm3 tw0
  have h4 : upd H3 tw (.lst (Y.map V.int)) tw = some (.lst (Y.map V.int)) := upd_same
  generalize upd H3 tw (.lst (Y.map V.int)) = H4 at sm4 h4 ⊢
  have fin : ∀ (due : Bool) H5, Same H H5 → H5 tw = some (.lst (Y.map V.int)) → (due = true ↔ Hh n ps1 ⟨false, [], Y⟩ c) → ∀ tp, H5 tp = none → spIs K [V.ref o, V.ref tp, V.bl due] (upd H5 tp (.tup [V.str "uneven", V.ref tw])) Q E := fun due H5 sm5 h5 hd tp htp =>
    ⟨o, tp, tw, c, ⟨false, [], Y⟩, n, ps1, due, rfl, (same_new sm5 htp).seq ho, upd_same, .inr ⟨rfl, (upd_ne (ne_of_none h5 htp)).trans h5⟩, lc, by omega, n2, hp, mo_un (by omega) bY bc, hd, fun H6 sm6 => q _ ((same_new sm5 htp).trans sm6)⟩
  refine ⟨_, rfl, _, rfl, tw, Y, n, ps1, rfl, h4, lY, by omega, n2, hp, fun b eb H5 sm5 => ⟨b, rfl, ite2 (fun e => ?_) (fun e => ?_)⟩⟩
  · have rz := eb.mp e
    have sm05 := sm4.trans sm5
    have h5 := sm5 _ _ h4
    refine ⟨_, rfl, _, rfl, by omega, by omega, ?_⟩
    rw [Int.toNat_natCast]
    refine comp_range0 (n := n) (fun i ys H6 => H6 = H5 ∧ ys = ((List.range i).map fun (t : Nat) => Ld.at' c t * Ld.at' Y t).map V.int) ⟨rfl, rfl⟩ (fun i ys H6 hi z => by rw [z.2, List.length_map, List.length_map, List.length_range]; exact size1 (by omega)) ?_ ?_
    · rintro i ys H6 hi ⟨rfl, rfl⟩
      refine ⟨_, rfl, _, rfl, o, _, _, _, rfl, rfl, sm05.seq ho, atI_k (by omega) (by omega), _, rfl, _, rfl, tw, _, _, _, rfl, rfl, SqL.of h5, atI_k (by omega) (by omega), _, _, rfl, rfl, mulB (Ld.at_bd bc i) (Ld.at_bd bY i) (by omega), rfl, ?_⟩
      rw [List.range_succ, List.map_append, List.map_append, List.map_singleton, List.map_singleton]
    · rintro ys H6 ⟨rfl, rfl⟩ D hD
      refine ⟨D, _, rfl, SqL.of upd_same, ?_⟩
      rw [Pl.S_sum (fun t => Ld.at' c t * Ld.at' Y t)]
      refine ⟨rfl, ?_⟩
      refine ⟨_, rfl, _, rfl, (by show 2 ≤ sizeLine; decide), fun tp htp => ⟨_, rfl, fin _ _ (same_new sm05 hD) ((upd_ne (ne_of_none h5 hD)).trans h5) ?_ tp htp⟩⟩
      rw [un_pp]
      constructor
      · intro z; exact ⟨lY, vne z, rz⟩
      · intro z; rw [Bool.not_eq_true', decide_eq_false_iff_not]; intro y; injection y with y; exact z.2.1 y
  · have ef : b = false := by cases b with | false => rfl | true => exact absurd rfl e
    subst ef
    refine ⟨_, rfl, _, rfl, (by show 2 ≤ sizeLine; decide), fun tp htp => ⟨_, rfl, fin false _ (sm4.trans sm5) (sm5 _ _ h4) ⟨fun z => (by cases z), fun z => ?_⟩ tp htp⟩⟩
    exact eb.mpr (un_pp.mp z).2.2

theorem ok_law (T : Txt K mg C_NoRing) {f : Addr} {fd : FuncData} (F : Fun K "law" "law" s_law f fd) : FnOk P w K mg base CX0 8 f fd ["script"] (spLaw K) := by
  have D_law_cell := ok_law_cell (P := P) (w := w) (base := base) T
  have D_law_wheel := ok_law_wheel (P := P) (w := w) (base := base) T
  have D_law_rings := ok_law_rings (P := P) (w := w) (base := base) T
  have D_law_laid := ok_law_laid (P := P) (w := w) (base := base) T
  have D_law_is := ok_law_is (P := P) (w := w) (base := base) T
  have D_law_rows_good := ok_law_rows_good (P := P) (w := w) (base := base) T
  have D_law_weights := ok_law_weights (P := P) (w := w) (base := base) T
  have D_law_load := ok_law_load (P := P) (w := w) (base := base) T
  have D_law_twisted_good := ok_law_twisted_good (P := P) (w := w) (base := base) T
  refine F.ok sc_law (fun vs H Q E h => ?_) (fun cdv A outer s H vs Q E hr h => ?_)
  · obtain ⟨_, _, rfl, _⟩ := h; rfl
  obtain ⟨a, ns, rfl, hS, h63, q⟩ := h
  have nd := sc_law.nd
  refine ⟨_, (pss_cons (ps_set (i := 1) nd rfl (Or.inl rfl) (pe_callB (call_min2 rfl) (by rfl) T.b_min L2.bi_min (pa_cons (pe_def D_law_wheel (hr.mono (by decide)) (by rfl) (pa_cons (pe_def D_law_cell (hr.mono (by decide)) (by rfl) (pa_cons (pv 0) (pa_cons pe_int pa_nil))) pa_nil)) (pa_cons pe_int pa_nil)))) (pss_cons (ps_set (i := 2) nd rfl (Or.inl rfl) (pe_def D_law_rings (hr.mono (by decide)) (by rfl) (pa_cons (pv 0) (pa_cons (pv 1) (pa_cons pe_int (pa_cons pe_int pa_nil)))))) (pss_cons (ps_set (i := 3) nd rfl (Or.inl rfl) (pe_def D_law_laid (hr.mono (by decide)) (by rfl) (pa_cons (pv 1) (pa_cons (pv 2) pa_nil)))) (pss_cons (ps_if (PW.pt (pw_or (pt_not (pt_val (pe_def D_law_is (hr.mono (by decide)) (by rfl) (pa_cons (pv 3) (pa_cons (pe_tup (pa_cons pe_str (pa_cons (pv 2) pa_nil))) (pa_cons pe_bl pa_nil)))))) (pw_or1 (pt_not (pt_val (pe_def D_law_rows_good (hr.mono (by decide)) (by rfl) (pa_cons (pv 0) (pa_cons (pv 1) (pa_cons (pv 2) (pa_cons (pv 3) pa_nil)))))))))) (pss_one (ps_ret pe_bl)) pss_nil) (pss_cons (ps_set (i := 4) nd rfl (Or.inr rfl) (pe_def D_law_weights (hr.mono (by decide)) (by rfl) (pa_cons (pv 0) (pa_cons (pv 1) pa_nil)))) (pss_cons (ps_set (i := 5) nd rfl (Or.inr rfl) (pe_def D_law_load (hr.mono (by decide)) (by rfl) (pa_cons (pv 0) (pa_cons (pv 1) (pa_cons pe_int (pa_cons pe_int pa_nil)))))) (pss_cons (ps_set (i := 6) nd rfl (Or.inl rfl) (pe_cmpR op_ne (pe_callB (call_sumL rfl) (by rfl) T.b_sum L2.bi_sum (pa_cons (pe_listcomp (cap := [("other", 5), ("weights", 4)]) (tgs := ["k"])  rfl rfl rfl (by decide +kernel) (by decide +kernel) (free_ok (by rfl)) (sub_cons rfl (sub_cons rfl sub_nil)) (cap_cons ⟨rfl, Or.inl rfl, Or.inl rfl, _, rfl⟩ (cap_cons ⟨rfl, Or.inl rfl, Or.inl rfl, _, rfl⟩ cap_nil)) (leaves_name (by decide)) (pi_range1 (by rfl) T.b_range (pa_cons (pv 1) pa_nil)) (fun C s H fp => ⟨(pg_name (i := 2) (show (["other", "weights", "k"] : List Str).Nodup by decide +kernel) rfl (Or.inl rfl) (Or.inr rfl)), pts_nil, (pe_op op_mulB (pe_ix (ix_listK (K := K) rfl) (pv 0) (pv 2) (fun _ _ => rfl)) (pe_ix (ix_listK (K := K) rfl) (pv 1) (pv 2) (fun _ _ => rfl)))⟩)) pa_nil)) pe_int (nomark _))) (pss_cons (ps_if (pt_not (pt_val (pe_def D_law_is (hr.mono (by decide)) (by rfl) (pa_cons (pv 5) (pa_cons (pe_tup (pa_cons pe_str (pa_cons (pv 4) pa_nil))) (pa_cons (pv 6) pa_nil)))))) (pss_one (ps_ret pe_bl)) pss_nil) (pss_cons (ps_if (pt_not (pt_val (pe_def D_law_is (hr.mono (by decide)) (by rfl) (pa_cons (pv 3) (pa_cons (pe_tup (pa_cons pe_str (pa_cons (pv 4) pa_nil))) (pa_cons pe_bl pa_nil)))))) (pss_one (ps_ret pe_bl)) pss_nil) (pss_cons (ps_for PassesOwn.never rfl (pi_list (pe_lst (pa_cons (pe_op op_cat (pv 4) (pe_lst (pa_cons pe_int pa_nil))) (pa_cons (pe_slice sl_list (pv 4) (po_some pe_int) po_none) pa_nil)))) (pg_name (i := 7) nd rfl (Or.inl rfl)) (pss_one (ps_if (pt_not (pt_val (pe_def D_law_is (hr.mono (by decide)) (by rfl) (pa_cons (pv 5) (pa_cons (pe_tup (pa_cons pe_str (pa_cons (pv 7) pa_nil))) (pa_cons pe_bl pa_nil)))))) (pss_one (ps_ret pe_bl)) pss_nil))) (pss_cons (ps_set (i := 8) nd rfl (Or.inl rfl) (pe_op op_mod (pe_op op_fdivB (pe_def D_law_cell (hr.mono (by decide)) (by rfl) (pa_cons (pv 0) (pa_cons pe_int pa_nil))) pe_int) (pv 1))) (pss_cons (ps_if (PW.pt (pw_and (pt_cmpR op_gt (pv 1) pe_int (nomark _)) (pw_and1 (pt_not (pt_val (pe_def D_law_twisted_good (hr.mono (by decide)) (by rfl) (pa_cons (pv 0) (pa_cons (pv 5) (pa_cons (pv 4) (pa_cons (pv 8) pa_nil)))))))))) (pss_one (ps_ret pe_bl)) pss_nil) (pss_cons (ps_asg (pe_op op_add (pe_ix ix_list (pv 4) (pv 8) (fun _ _ => rfl)) pe_int) (pg_sub (pv 4) (pv 8) set_list)) (pss_one (ps_ret (pe_or (pe_cmpR op_eq (pv 1) pe_int (nomark _)) (pe_one (pe_def D_law_is (hr.mono (by decide)) (by rfl) (pa_cons (pv 5) (pa_cons (pe_tup (pa_cons pe_str (pa_cons (pv 4) pa_nil))) (pa_cons pe_bl pa_nil))))))))))))))))))))), ?_⟩
  refine ⟨_, rfl, a, ns, 0, rfl, hS, Int.le_refl 0, fun v => ⟨v, rfl, fun m m1 m2 => ⟨_, _, rfl, ?_⟩⟩⟩
  obtain ⟨n, hn, n1, n2⟩ : ∃ n : Nat, (if (419 : Int) < (m : Int) then (419 : Int) else (m : Int)) = n ∧ 1 ≤ n ∧ n ≤ 419 := by
    by_cases c : (419 : Int) < m
    · exact ⟨419, by rw [if_pos c]; rfl, by omega, by omega⟩
    · exact ⟨m, by rw [if_neg c], m1, by omega⟩
  rw [hn]
  refine ⟨_, rfl, _, rfl, a, ns, n, 0, 2, rfl, hS, h63, n1, by omega, by decide, by decide, fun ro H1 rows ps sm1 _ tr hp rok => ?_⟩
  obtain ⟨l, lds⟩ := Rt.Ld'.ex n1 hp
  refine ⟨_, rfl, _, rfl, ro, n, rows, ps, rfl, n1, by omega, tr, hp, rok, fun ld H2 b sm2 _ h2 lb bb bv => ?_⟩
  have sm02 := sm1.trans sm2
  have prm : ∀ x ∈ rows, x.1 ∈ ps.map Prod.fst := fun x hx => (rok.2 x hx).1
  refine ⟨_, rfl, _, rfl, size2 (by simp), fun t3 f_t3 => ?_⟩
  have sm3 : Same H2 (upd H2 t3 (.tup [V.str "even", V.ref ro])) := same_new (Same.refl _) f_t3
  have h3 : upd H2 t3 (.tup [V.str "even", V.ref ro]) t3 = some (.tup [V.str "even", V.ref ro]) := upd_same
  generalize upd H2 t3 (.tup [V.str "even", V.ref ro]) = H3 at sm3 h3 ⊢
  refine ⟨ld, t3, ro, b, ⟨true, rows, []⟩, n, ps, true, rfl, SqL.of (sm3 _ _ h2), h3, .inl ⟨rfl, tr.same (sm2.trans sm3)⟩, lb, n1, by omega, hp, mo_ev, ⟨fun _ => ev_pp.mpr ⟨prm, bv⟩, fun _ => rfl⟩, fun H4 sm4 => ⟨true, rfl, iteF ?_⟩⟩
  have sm24 := sm3.trans sm4
  refine ⟨_, rfl, _, rfl, _, rfl, _, rfl, a, ro, ld, ns, n, rows, ps, b, rfl, (sm02.trans sm24).seq hS, tr.same (sm2.trans sm24), hp, rok, SqL.of (sm24 _ _ h2), lb, n1, n2, bv, fun H5 sm5 => ⟨true, rfl, iteF ?_⟩⟩
  have sm25 := sm24.trans sm5
  have sm05 := sm02.trans sm25
  refine ⟨_, rfl, _, rfl, a, ns, n, ps, l, rfl, sm05.seq hS, h63, n1, by omega, lds, fun wt H6 W sm6 fwt h6 lW bW rz => ?_⟩
  have sm06 := sm05.trans sm6
  have wt0 : H wt = none := sm05.free fwt
  refine ⟨_, rfl, _, rfl, a, ns, n, 1, 2, rfl, sm06.seq hS, h63, n1, by omega, by decide, by decide, fun ot H7 c sm7 fot h7 lc bc => ?_⟩
  have now : ot ≠ wt := fun z => by rw [z, h6] at fot; cases fot
  have sm07 := sm06.trans sm7
  have h67 := sm7 _ _ h6
  have hl7 := (sm6.trans sm7) _ _ (sm25 _ _ h2)
  refine ⟨_, rfl, _, rfl, by omega, by omega, ?_⟩
  rw [Int.toNat_natCast]
  refine comp_range0 (n := n) (fun i ys H8 => H8 = H7 ∧ ys = ((List.range i).map fun (t : Nat) => Ld.at' c t * Ld.at' W t).map V.int) ⟨rfl, rfl⟩ (fun i ys H8 hi z => by rw [z.2, List.length_map, List.length_map, List.length_range]; exact size1 (by omega)) ?_ ?_
  · rintro i ys H8 hi ⟨rfl, rfl⟩
    refine ⟨_, rfl, _, rfl, ot, _, _, _, rfl, rfl, SqL.of h7, atI_k (by omega) (by omega), _, rfl, _, rfl, wt, _, _, _, rfl, rfl, SqL.of h67, atI_k (by omega) (by omega), _, _, rfl, rfl, mulB (Ld.at_bd bc i) (Ld.at_bd bW i) (by omega), rfl, ?_⟩
    rw [List.range_succ, List.map_append, List.map_append, List.map_singleton, List.map_singleton]
  rintro ys H8 ⟨rfl, rfl⟩ D hD
  refine ⟨D, _, rfl, SqL.of upd_same, ?_⟩
  rw [Pl.S_sum (fun t => Ld.at' c t * Ld.at' W t)]
  refine ⟨rfl, ?_⟩
  have smD : Same H8 (upd H8 D (.lst (((List.range n).map fun (t : Nat) => Ld.at' c t * Ld.at' W t).map V.int))) := same_new (Same.refl _) hD
  generalize upd H8 D (.lst (((List.range n).map fun (t : Nat) => Ld.at' c t * Ld.at' W t).map V.int)) = H9 at smD ⊢
  have h69 := smD _ _ h67
  have h79 := smD _ _ h7
  have hl9 := smD _ _ hl7
  have sm09 := sm07.trans smD
  refine ⟨_, rfl, _, rfl, size2 (by simp), fun tA f_tA => ⟨_, rfl, ?_⟩⟩
  have smA : Same H9 (upd H9 tA (.tup [V.str "uneven", V.ref wt])) := same_new (Same.refl _) f_tA
  have hA : upd H9 tA (.tup [V.str "uneven", V.ref wt]) tA = some (.tup [V.str "uneven", V.ref wt]) := upd_same
  generalize upd H9 tA (.tup [V.str "uneven", V.ref wt]) = HA at smA hA ⊢
  refine ⟨ot, tA, wt, c, ⟨false, [], W⟩, n, ps, _, rfl, SqL.of (smA _ _ h79), hA, .inr ⟨rfl, smA _ _ h69⟩, lc, n1, by omega, hp, mo_un (by omega) bW bc, ?_, fun HB smB => ⟨true, rfl, iteF ?_⟩⟩
  · rw [un_pp]
    constructor
    · intro z; exact ⟨lW, vne z, rz⟩
    · intro z; rw [Bool.not_eq_true', decide_eq_false_iff_not]; intro y; injection y with y; exact z.2.1 y
  have sm9B := smA.trans smB
  refine ⟨_, rfl, _, rfl, size2 (by simp), fun tC f_tC => ?_⟩
  have smC : Same HB (upd HB tC (.tup [V.str "uneven", V.ref wt])) := same_new (Same.refl _) f_tC
  have hC : upd HB tC (.tup [V.str "uneven", V.ref wt]) tC = some (.tup [V.str "uneven", V.ref wt]) := upd_same
  generalize upd HB tC (.tup [V.str "uneven", V.ref wt]) = HC at smC hC ⊢
  refine ⟨ld, tC, wt, b, ⟨false, [], W⟩, n, ps, false, rfl, SqL.of (smC _ _ (sm9B _ _ hl9)), hC, .inr ⟨rfl, smC _ _ (sm9B _ _ h69)⟩, lb, n1, by omega, hp, mo_un (by omega) bW bb, ⟨fun z => (by cases z), fun z => ?_⟩, fun HD smD2 => ⟨true, rfl, iteF ?_⟩⟩
  · refine absurd ?_ (un_pp.mp z).2.1
    rw [← rz.rvs n1 hp prm]
    exact Ld.S_congr fun k _ => by rw [bv]
  have sm9D := (sm9B.trans smC).trans smD2
  -- weights of another length
  refine ⟨_, rfl, size2 (by simp), fun z1 f_z1 => ?_⟩
  have smE : Same HD (upd HD z1 (.lst [V.int 0])) := same_new (Same.refl _) f_z1
  have hE : upd HD z1 (.lst [V.int 0]) z1 = some (.lst [V.int 0]) := upd_same
  generalize upd HD z1 (.lst [V.int 0]) = HE at smE hE ⊢
  refine ⟨_, _, _, _, rfl, rfl, (smE _ _ (sm9D _ _ h69)), hE, size2 (by simp; omega), fun z2 f_z2 => ?_⟩
  have smF : Same HE (upd HE z2 (.lst (W.map V.int ++ [V.int 0]))) := same_new (Same.refl _) f_z2
  have hF : upd HE z2 (.lst (W.map V.int ++ [V.int 0])) z2 = some (.lst (W.map V.int ++ [V.int 0])) := upd_same
  generalize upd HE z2 (.lst (W.map V.int ++ [V.int 0])) = HF at smF hF ⊢
  refine ⟨_, rfl, _, rfl, wt, _, rfl, SqL.of ((smE.trans smF) _ _ (sm9D _ _ h69)), fun z3 hz3 => ?_⟩
  rw [cut_from1]
  have smG : Same HF (upd HF z3 (.lst ((W.drop 1).map V.int))) := same_new (Same.refl _) hz3
  have hG : upd HF z3 (.lst ((W.drop 1).map V.int)) z3 = some (.lst ((W.drop 1).map V.int)) := upd_same
  generalize upd HF z3 (.lst ((W.drop 1).map V.int)) = HG at smG hG ⊢
  refine ⟨size2 (by simp), fun z4 f_z4 => ⟨z4, rfl, ⟨_, SqL.of upd_same⟩, ?_⟩⟩
  have smI : Same HG (upd HG z4 (.lst [V.ref z2, V.ref z3])) := same_new (Same.refl _) f_z4
  have hI : upd HG z4 (.lst [V.ref z2, V.ref z3]) z4 = some (.lst [V.ref z2, V.ref z3]) := upd_same
  generalize upd HG z4 (.lst [V.ref z2, V.ref z3]) = HI at smI hI ⊢
  have h2I : HI z2 = some (.lst ((W ++ [0]).map V.int)) := by rw [smI _ _ (smG _ _ hF), List.map_append]; rfl
  have h3I := smI _ _ hG
  have sm9I := (((sm9D.trans smE).trans smF).trans smG).trans smI
  refine for_list (xs := [V.ref z2, V.ref z3]) (fun i σ HJ => Same HI HJ ∧ ∃ o1 o2 : Option V, σ = [some (.ref a), some (.int n), some (.ref ro), some (.ref ld), some (.ref wt), some (.ref ot), o1, o2, none]) ⟨Same.refl _, _, _, rfl⟩ (fun i σ HJ _ z => z.1.seq (SqL.of hI)) ?_ ?_
  · rintro i x σ HJ hx ⟨smJ, o1, o2, rfl⟩
    have two : ∃ (bt : Addr) (U : List Int), x = V.ref bt ∧ HJ bt = some (.lst (U.map V.int)) ∧ ¬ U.length = n := by
      match i, hx with
      | 0, hx => exact ⟨z2, W ++ [0], (Option.some.inj hx).symm, smJ _ _ h2I, by rw [List.length_append, lW]; simp⟩
      | 1, hx => exact ⟨z3, W.drop 1, (Option.some.inj hx).symm, smJ _ _ h3I, by rw [List.length_drop, lW]; omega⟩
    obtain ⟨bt, U, rfl, hU, lU⟩ := two
    refine ⟨_, rfl, _, rfl, (by show 2 ≤ sizeLine; decide), fun tp htp => ?_⟩
    exact ⟨ot, tp, bt, c, ⟨false, [], U⟩, n, ps, false, rfl, SqL.of ((same_new smJ htp) _ _ (sm9I _ _ h79)), upd_same, .inr ⟨rfl, (upd_ne (ne_of_none hU htp)).trans hU⟩, lc, n1, by omega, hp, fun _ e => absurd e lU, ⟨fun z => (by cases z), fun z => absurd (un_pp.mp z).1 lU⟩, fun H' sm' => ⟨true, rfl, iteF ⟨(same_new smJ htp).trans sm', _, _, rfl⟩⟩⟩
  rintro σ HJ ⟨smJ, o1, o2, rfl⟩
  have sm9J := sm9I.trans smJ
  have sm0J := sm09.trans sm9J
  refine ⟨_, rfl, a, ns, 1, rfl, sm0J.seq hS, (by decide), fun v3 => ⟨_, _, rfl, rfl, div_small (by decide) (by decide), _, rfl, _, _, rfl, rfl, (show (0 : Int) < n by omega), ?_⟩⟩
  have k0 := Int.emod_nonneg (v3 / 3) (show (n : Int) ≠ 0 by omega)
  have k1 := Int.emod_lt_of_pos (v3 / 3) (show (0 : Int) < n by omega)
  dsimp only
  generalize v3 / 3 % (n : Int) = k at k0 k1 ⊢
  refine ⟨_, rfl, _, _, rfl, rfl, _, rfl, ite2 (fun c1 => ?_) (fun c1 => ?_)⟩
  · have n3 := dec c1
    refine ⟨_, rfl, _, rfl, _, rfl, _, rfl, a, ot, wt, ns, c, W, n, ps, k, rfl, sm0J.seq hS, SqL.of (sm9J _ _ h79), lc, bc, sm9J _ _ h69, lW, bW, by omega, by omega, hp, k0, k1, fun HK smK => ⟨true, rfl, iteF ?_⟩⟩
    have sm9K := sm9J.trans smK
    have hW := sm9K _ _ h69
    have h7K := sm9K _ _ h79
    refine ⟨_, rfl, _, rfl, wt, _, _, _, rfl, rfl, SqL.of hW, atI_k k0 (by omega), _, _, rfl, rfl, _, rfl, _, rfl, wt, _, _, _, rfl, rfl, hW, ixN_in k0 (by rw [mlen lW]; exact k1), ?_⟩
    rw [set_int]
    obtain ⟨U, hU⟩ : ∃ U, U = W.set k.toNat (Ld.at' W k + 1) := ⟨_, rfl⟩
    rw [← hU]
    have lU : U.length = n := by rw [hU, List.length_set, lW]
    have bU : Ld.Bd (2 ^ 207) U := by
      rw [hU]
      refine bd_set _ (fun x hx => Nat.le_trans (bW x hx) (by decide +kernel)) ?_
      have := Ld.at_bd bW k
      have e : 2 ^ 206 + 1 ≤ 2 ^ 207 := by decide +kernel
      omega
    have h3 : upd HK wt (.lst (U.map V.int)) wt = some (.lst (U.map V.int)) := upd_same
    have h4 : upd HK wt (.lst (U.map V.int)) ot = some (.lst (c.map V.int)) := (upd_ne now).trans h7K
    generalize upd HK wt (.lst (U.map V.int)) = HL at h3 h4 ⊢
    refine ⟨_, rfl, rfl, _, rfl, iteF' (fun z => by have := vint z; omega) ?_⟩
    refine ⟨_, rfl, _, rfl, size2 (by simp), fun tM f_tM => ?_⟩
    have smM : Same HL (upd HL tM (.tup [V.str "uneven", V.ref wt])) := same_new (Same.refl _) f_tM
    have hM : upd HL tM (.tup [V.str "uneven", V.ref wt]) tM = some (.tup [V.str "uneven", V.ref wt]) := upd_same
    generalize upd HL tM (.tup [V.str "uneven", V.ref wt]) = HM at smM hM ⊢
    refine ⟨ot, tM, wt, c, ⟨false, [], U⟩, n, ps, false, rfl, SqL.of (smM _ _ h4), hM, .inr ⟨rfl, smM _ _ h3⟩, lc, n1, by omega, hp, mo_un (by omega) bU bc, ⟨fun z => (by cases z), fun z => ?_⟩, fun HN _ => q _⟩
    refine absurd (un_pp.mp z).2.2 (rz.bent hp (by omega) k0 k1 fun x x0 x1 => ?_)
    have e := Ld.at_set lW (by omega) k (Ld.at' W k + 1) x
    rw [Int.emod_eq_of_lt x0 x1, Int.emod_eq_of_lt k0 k1, ← hU] at e
    rw [e]
    by_cases c2 : x = k
    · rw [if_pos c2, if_pos c2, c2]
    · rw [if_neg c2, if_neg c2, Int.add_zero]
  · have n3 := ndec c1
    have hW := sm9J _ _ h69
    refine ⟨_, rfl, _, rfl, wt, _, _, _, rfl, rfl, SqL.of hW, atI_k k0 (by omega), _, _, rfl, rfl, _, rfl, _, rfl, wt, _, _, _, rfl, rfl, hW, ixN_in k0 (by rw [mlen lW]; exact k1), ?_⟩
    refine ⟨_, rfl, rfl, _, rfl, iteT' (by rw [show n = 1 by omega]; rfl) ?_⟩
    exact q _
end
theorem all_mk {l : PySem.W.OpenLaw} {w : World} {K : PySem.W.Frag} {h : Heap} {mg : Str → Option Value} {fa f0 f1 f2 f3 f4 f5 f6 f7 f8 f9 f10 f11 f12 f13 f14 f15 f16 f17 f18 f19 f20 f21 f22 f23 f24 f25 f26 : Addr} (X : K.In h) (G : h.Ns mainGlobals mg) (hfa : mg "law" = some (.ref fa))
    {od0 an0 od1 an1 od2 an2 od3 an3 od4 an4 od5 an5 od6 an6 od7 an7 od8 an8 od9 an9 od10 an10 od11 an11 od12 an12 od13 an13 od14 an14 od15 an15 od16 an16 od17 an17 od18 an18 od19 an19 od20 an20 od21 an21 od22 an22 od23 an23 od24 an24 od25 an25 od26 an26 : Option Addr} {sl0 sl1 sl2 sl3 sl4 sl5 sl6 sl7 sl8 sl9 sl10 sl11 sl12 sl13 sl14 sl15 sl16 sl17 sl18 sl19 sl20 sl21 sl22 sl23 sl24 sl25 sl26 : Array (Option Value)} {oc0 kV0 dc0 pm0 cd0 ct0 oc1 kV1 dc1 pm1 cd1 ct1 oc2 kV2 dc2 pm2 cd2 ct2 oc3 kV3 dc3 pm3 cd3 ct3 oc4 kV4 dc4 pm4 cd4 ct4 oc5 kV5 dc5 pm5 cd5 ct5 oc6 kV6 dc6 pm6 cd6 ct6 oc7 kV7 dc7 pm7 cd7 ct7 oc8 kV8 dc8 pm8 cd8 ct8 oc9 kV9 dc9 pm9 cd9 ct9 oc10 kV10 dc10 pm10 cd10 ct10 oc11 kV11 dc11 pm11 cd11 ct11 oc12 kV12 dc12 pm12 cd12 ct12 oc13 kV13 dc13 pm13 cd13 ct13 oc14 kV14 dc14 pm14 cd14 ct14 oc15 kV15 dc15 pm15 cd15 ct15 oc16 kV16 dc16 pm16 cd16 ct16 oc17 kV17 dc17 pm17 cd17 ct17 oc18 kV18 dc18 pm18 cd18 ct18 oc19 kV19 dc19 pm19 cd19 ct19 oc20 kV20 dc20 pm20 cd20 ct20 oc21 kV21 dc21 pm21 cd21 ct21 oc22 kV22 dc22 pm22 cd22 ct22 oc23 kV23 dc23 pm23 cd23 ct23 oc24 kV24 dc24 pm24 cd24 ct24 oc25 kV25 dc25 pm25 cd25 ct25 oc26 kV26 dc26 pm26 cd26 ct26 : Value}
    (a0 : PySem.W.nsIn K mainGlobals "check_fit" = some (some (.ref f0))) (l0 : K.lookup f0 = some ⟨oc0, od0, .func (PySem.W.fnOf "check_fit" "check_fit" (defArgs s_check_fit) (defBody s_check_fit) (defScope s_check_fit) .none kV0 dc0 pm0 an0 cd0 ct0), sl0⟩) (c0 : PySem.W.codeIn K cd0 "check_fit" = true) (k0 : PySem.W.keepIn K (.ref f0) = true)
    (a1 : PySem.W.nsIn K mainGlobals "parts" = some (some (.ref f1))) (l1 : K.lookup f1 = some ⟨oc1, od1, .func (PySem.W.fnOf "parts" "parts" (defArgs s_parts) (defBody s_parts) (defScope s_parts) .none kV1 dc1 pm1 an1 cd1 ct1), sl1⟩) (c1 : PySem.W.codeIn K cd1 "parts" = true) (k1 : PySem.W.keepIn K (.ref f1) = true)
    (a2 : PySem.W.nsIn K mainGlobals "prime_power" = some (some (.ref f2))) (l2 : K.lookup f2 = some ⟨oc2, od2, .func (PySem.W.fnOf "prime_power" "prime_power" (defArgs s_prime_power) (defBody s_prime_power) (defScope s_prime_power) .none kV2 dc2 pm2 an2 cd2 ct2), sl2⟩) (c2 : PySem.W.codeIn K cd2 "prime_power" = true) (k2 : PySem.W.keepIn K (.ref f2) = true)
    (a3 : PySem.W.nsIn K mainGlobals "laid" = some (some (.ref f3))) (l3 : K.lookup f3 = some ⟨oc3, od3, .func (PySem.W.fnOf "laid" "laid" (defArgs s_laid) (defBody s_laid) (defScope s_laid) .none kV3 dc3 pm3 an3 cd3 ct3), sl3⟩) (c3 : PySem.W.codeIn K cd3 "laid" = true) (k3 : PySem.W.keepIn K (.ref f3) = true)
    (a4 : PySem.W.nsIn K mainGlobals "lay_ring" = some (some (.ref f4))) (l4 : K.lookup f4 = some ⟨oc4, od4, .func (PySem.W.fnOf "lay_ring" "lay_ring" (defArgs s_lay_ring) (defBody s_lay_ring) (defScope s_lay_ring) .none kV4 dc4 pm4 an4 cd4 ct4), sl4⟩) (c4 : PySem.W.codeIn K cd4 "lay_ring" = true) (k4 : PySem.W.keepIn K (.ref f4) = true)
    (a5 : PySem.W.nsIn K mainGlobals "ring_holes" = some (some (.ref f5))) (l5 : K.lookup f5 = some ⟨oc5, od5, .func (PySem.W.fnOf "ring_holes" "ring_holes" (defArgs s_ring_holes) (defBody s_ring_holes) (defScope s_ring_holes) .none kV5 dc5 pm5 an5 cd5 ct5), sl5⟩) (c5 : PySem.W.codeIn K cd5 "ring_holes" = true) (k5 : PySem.W.keepIn K (.ref f5) = true)
    (a6 : PySem.W.nsIn K mainGlobals "weighed" = some (some (.ref f6))) (l6 : K.lookup f6 = some ⟨oc6, od6, .func (PySem.W.fnOf "weighed" "weighed" (defArgs s_weighed) (defBody s_weighed) (defScope s_weighed) .none kV6 dc6 pm6 an6 cd6 ct6), sl6⟩) (c6 : PySem.W.codeIn K cd6 "weighed" = true) (k6 : PySem.W.keepIn K (.ref f6) = true)
    (a7 : PySem.W.nsIn K mainGlobals "holds" = some (some (.ref f7))) (l7 : K.lookup f7 = some ⟨oc7, od7, .func (PySem.W.fnOf "holds" "holds" (defArgs s_holds) (defBody s_holds) (defScope s_holds) .none kV7 dc7 pm7 an7 cd7 ct7), sl7⟩) (c7 : PySem.W.codeIn K cd7 "holds" = true) (k7 : PySem.W.keepIn K (.ref f7) = true)
    (a8 : PySem.W.nsIn K mainGlobals "rows_hold" = some (some (.ref f8))) (l8 : K.lookup f8 = some ⟨oc8, od8, .func (PySem.W.fnOf "rows_hold" "rows_hold" (defArgs s_rows_hold) (defBody s_rows_hold) (defScope s_rows_hold) .none kV8 dc8 pm8 an8 cd8 ct8), sl8⟩) (c8 : PySem.W.codeIn K cd8 "rows_hold" = true) (k8 : PySem.W.keepIn K (.ref f8) = true)
    (a9 : PySem.W.nsIn K mainGlobals "weights_hold" = some (some (.ref f9))) (l9 : K.lookup f9 = some ⟨oc9, od9, .func (PySem.W.fnOf "weights_hold" "weights_hold" (defArgs s_weights_hold) (defBody s_weights_hold) (defScope s_weights_hold) .none kV9 dc9 pm9 an9 cd9 ct9), sl9⟩) (c9 : PySem.W.codeIn K cd9 "weights_hold" = true) (k9 : PySem.W.keepIn K (.ref f9) = true)
    (a10 : PySem.W.nsIn K mainGlobals "rings_weigh_nought" = some (some (.ref f10))) (l10 : K.lookup f10 = some ⟨oc10, od10, .func (PySem.W.fnOf "rings_weigh_nought" "rings_weigh_nought" (defArgs s_rings_weigh_nought) (defBody s_rings_weigh_nought) (defScope s_rings_weigh_nought) .none kV10 dc10 pm10 an10 cd10 ct10), sl10⟩) (c10 : PySem.W.codeIn K cd10 "rings_weigh_nought" = true) (k10 : PySem.W.keepIn K (.ref f10) = true)
    (a11 : PySem.W.nsIn K mainGlobals "_law_cell" = some (some (.ref f11))) (l11 : K.lookup f11 = some ⟨oc11, od11, .func (PySem.W.fnOf "_law_cell" "_law_cell" (defArgs s_law_cell) (defBody s_law_cell) (defScope s_law_cell) .none kV11 dc11 pm11 an11 cd11 ct11), sl11⟩) (c11 : PySem.W.codeIn K cd11 "_law_cell" = true) (k11 : PySem.W.keepIn K (.ref f11) = true)
    (a12 : PySem.W.nsIn K mainGlobals "_law_number" = some (some (.ref f12))) (l12 : K.lookup f12 = some ⟨oc12, od12, .func (PySem.W.fnOf "_law_number" "_law_number" (defArgs s_law_number) (defBody s_law_number) (defScope s_law_number) .none kV12 dc12 pm12 an12 cd12 ct12), sl12⟩) (c12 : PySem.W.codeIn K cd12 "_law_number" = true) (k12 : PySem.W.keepIn K (.ref f12) = true)
    (a13 : PySem.W.nsIn K mainGlobals "_law_wheel" = some (some (.ref f13))) (l13 : K.lookup f13 = some ⟨oc13, od13, .func (PySem.W.fnOf "_law_wheel" "_law_wheel" (defArgs s_law_wheel) (defBody s_law_wheel) (defScope s_law_wheel) .none kV13 dc13 pm13 an13 cd13 ct13), sl13⟩) (c13 : PySem.W.codeIn K cd13 "_law_wheel" = true) (k13 : PySem.W.keepIn K (.ref f13) = true)
    (a14 : PySem.W.nsIn K mainGlobals "_law_load" = some (some (.ref f14))) (l14 : K.lookup f14 = some ⟨oc14, od14, .func (PySem.W.fnOf "_law_load" "_law_load" (defArgs s_law_load) (defBody s_law_load) (defScope s_law_load) .none kV14 dc14 pm14 an14 cd14 ct14), sl14⟩) (c14 : PySem.W.codeIn K cd14 "_law_load" = true) (k14 : PySem.W.keepIn K (.ref f14) = true)
    (a15 : PySem.W.nsIn K mainGlobals "_law_primes" = some (some (.ref f15))) (l15 : K.lookup f15 = some ⟨oc15, od15, .func (PySem.W.fnOf "_law_primes" "_law_primes" (defArgs s_law_primes) (defBody s_law_primes) (defScope s_law_primes) .none kV15 dc15 pm15 an15 cd15 ct15), sl15⟩) (c15 : PySem.W.codeIn K cd15 "_law_primes" = true) (k15 : PySem.W.keepIn K (.ref f15) = true)
    (a16 : PySem.W.nsIn K mainGlobals "_law_rings" = some (some (.ref f16))) (l16 : K.lookup f16 = some ⟨oc16, od16, .func (PySem.W.fnOf "_law_rings" "_law_rings" (defArgs s_law_rings) (defBody s_law_rings) (defScope s_law_rings) .none kV16 dc16 pm16 an16 cd16 ct16), sl16⟩) (c16 : PySem.W.codeIn K cd16 "_law_rings" = true) (k16 : PySem.W.keepIn K (.ref f16) = true)
    (a17 : PySem.W.nsIn K mainGlobals "_law_laid" = some (some (.ref f17))) (l17 : K.lookup f17 = some ⟨oc17, od17, .func (PySem.W.fnOf "_law_laid" "_law_laid" (defArgs s_law_laid) (defBody s_law_laid) (defScope s_law_laid) .none kV17 dc17 pm17 an17 cd17 ct17), sl17⟩) (c17 : PySem.W.codeIn K cd17 "_law_laid" = true) (k17 : PySem.W.keepIn K (.ref f17) = true)
    (a18 : PySem.W.nsIn K mainGlobals "_law_kept" = some (some (.ref f18))) (l18 : K.lookup f18 = some ⟨oc18, od18, .func (PySem.W.fnOf "_law_kept" "_law_kept" (defArgs s_law_kept) (defBody s_law_kept) (defScope s_law_kept) .none kV18 dc18 pm18 an18 cd18 ct18), sl18⟩) (c18 : PySem.W.codeIn K cd18 "_law_kept" = true) (k18 : PySem.W.keepIn K (.ref f18) = true)
    (a19 : PySem.W.nsIn K mainGlobals "_law_tables" = some (some (.ref f19))) (l19 : K.lookup f19 = some ⟨oc19, od19, .func (PySem.W.fnOf "_law_tables" "_law_tables" (defArgs s_law_tables) (defBody s_law_tables) (defScope s_law_tables) .none kV19 dc19 pm19 an19 cd19 ct19), sl19⟩) (c19 : PySem.W.codeIn K cd19 "_law_tables" = true) (k19 : PySem.W.keepIn K (.ref f19) = true)
    (a20 : PySem.W.nsIn K mainGlobals "_law_lean" = some (some (.ref f20))) (l20 : K.lookup f20 = some ⟨oc20, od20, .func (PySem.W.fnOf "_law_lean" "_law_lean" (defArgs s_law_lean) (defBody s_law_lean) (defScope s_law_lean) .none kV20 dc20 pm20 an20 cd20 ct20), sl20⟩) (c20 : PySem.W.codeIn K cd20 "_law_lean" = true) (k20 : PySem.W.keepIn K (.ref f20) = true)
    (a21 : PySem.W.nsIn K mainGlobals "_law_rings_weigh" = some (some (.ref f21))) (l21 : K.lookup f21 = some ⟨oc21, od21, .func (PySem.W.fnOf "_law_rings_weigh" "_law_rings_weigh" (defArgs s_law_rings_weigh) (defBody s_law_rings_weigh) (defScope s_law_rings_weigh) .none kV21 dc21 pm21 an21 cd21 ct21), sl21⟩) (c21 : PySem.W.codeIn K cd21 "_law_rings_weigh" = true) (k21 : PySem.W.keepIn K (.ref f21) = true)
    (a22 : PySem.W.nsIn K mainGlobals "_law_is" = some (some (.ref f22))) (l22 : K.lookup f22 = some ⟨oc22, od22, .func (PySem.W.fnOf "_law_is" "_law_is" (defArgs s_law_is) (defBody s_law_is) (defScope s_law_is) .none kV22 dc22 pm22 an22 cd22 ct22), sl22⟩) (c22 : PySem.W.codeIn K cd22 "_law_is" = true) (k22 : PySem.W.keepIn K (.ref f22) = true)
    (a23 : PySem.W.nsIn K mainGlobals "_law_rows_good" = some (some (.ref f23))) (l23 : K.lookup f23 = some ⟨oc23, od23, .func (PySem.W.fnOf "_law_rows_good" "_law_rows_good" (defArgs s_law_rows_good) (defBody s_law_rows_good) (defScope s_law_rows_good) .none kV23 dc23 pm23 an23 cd23 ct23), sl23⟩) (c23 : PySem.W.codeIn K cd23 "_law_rows_good" = true) (k23 : PySem.W.keepIn K (.ref f23) = true)
    (a24 : PySem.W.nsIn K mainGlobals "_law_weights" = some (some (.ref f24))) (l24 : K.lookup f24 = some ⟨oc24, od24, .func (PySem.W.fnOf "_law_weights" "_law_weights" (defArgs s_law_weights) (defBody s_law_weights) (defScope s_law_weights) .none kV24 dc24 pm24 an24 cd24 ct24), sl24⟩) (c24 : PySem.W.codeIn K cd24 "_law_weights" = true) (k24 : PySem.W.keepIn K (.ref f24) = true)
    (a25 : PySem.W.nsIn K mainGlobals "_law_twisted_good" = some (some (.ref f25))) (l25 : K.lookup f25 = some ⟨oc25, od25, .func (PySem.W.fnOf "_law_twisted_good" "_law_twisted_good" (defArgs s_law_twisted_good) (defBody s_law_twisted_good) (defScope s_law_twisted_good) .none kV25 dc25 pm25 an25 cd25 ct25), sl25⟩) (c25 : PySem.W.codeIn K cd25 "_law_twisted_good" = true) (k25 : PySem.W.keepIn K (.ref f25) = true)
    (a26 : PySem.W.nsIn K mainGlobals "law" = some (some (.ref f26))) (l26 : K.lookup f26 = some ⟨oc26, od26, .func (PySem.W.fnOf "law" "law" (defArgs s_law) (defBody s_law) (defScope s_law) .none kV26 dc26 pm26 an26 cd26 ct26), sl26⟩) (c26 : PySem.W.codeIn K cd26 "law" = true) (k26 : PySem.W.keepIn K (.ref f26) = true)
    (z0 : PySem.W.nsIn K mainGlobals "len" = some none)
    (z1 : PySem.W.nsIn K mainGlobals "isinstance" = some none)
    (z2 : PySem.W.nsIn K mainGlobals "int" = some none)
    (z3 : PySem.W.nsIn K mainGlobals "bool" = some none)
    (z4 : PySem.W.nsIn K mainGlobals "list" = some none)
    (z5 : PySem.W.nsIn K mainGlobals "range" = some none)
    (z6 : PySem.W.nsIn K mainGlobals "min" = some none)
    (z7 : PySem.W.nsIn K mainGlobals "all" = some none)
    (z8 : PySem.W.nsIn K mainGlobals "sum" = some none)
    (z9 : PySem.W.nsIn K mainGlobals "zip" = some none)
    (z10 : PySem.W.nsIn K mainGlobals "reversed" = some none)
    {C_NoRing : Addr} (ac_NoRing : PySem.W.nsIn K mainGlobals "NoRing" = some (some (.ref C_NoRing)))
    (f_x_NoRing : PySem.W.excIn K C_NoRing [.type "ValueError", .type "Exception", .type "BaseException", .type "object"] "ValueError.__new__" = true)
    (f_m_NoRing : PySem.W.exmOne K (.ref C_NoRing) (.ref C_NoRing) = some true)
    : ∃ fd : FuncData, (∀ (s : Shared) (v : Value), BindsTo s fd ⟨[v], []⟩ [("script", v)]) ∧ ∀ base : Heap, K.In base → base.Ns mainGlobals mg → FnOk l.prog w K mg base CX0 8 fa fd ["script"] (spLaw K) := by
  have e := hfa.symm.trans (PySem.W.mg_of X G a26)
  cases e
  have F0 := fun_mk (st := s_check_fit) l0 c0 k0
  have F1 := fun_mk (st := s_parts) l1 c1 k1
  have F2 := fun_mk (st := s_prime_power) l2 c2 k2
  have F3 := fun_mk (st := s_laid) l3 c3 k3
  have F4 := fun_mk (st := s_lay_ring) l4 c4 k4
  have F5 := fun_mk (st := s_ring_holes) l5 c5 k5
  have F6 := fun_mk (st := s_weighed) l6 c6 k6
  have F7 := fun_mk (st := s_holds) l7 c7 k7
  have F8 := fun_mk (st := s_rows_hold) l8 c8 k8
  have F9 := fun_mk (st := s_weights_hold) l9 c9 k9
  have F10 := fun_mk (st := s_rings_weigh_nought) l10 c10 k10
  have F11 := fun_mk (st := s_law_cell) l11 c11 k11
  have F12 := fun_mk (st := s_law_number) l12 c12 k12
  have F13 := fun_mk (st := s_law_wheel) l13 c13 k13
  have F14 := fun_mk (st := s_law_load) l14 c14 k14
  have F15 := fun_mk (st := s_law_primes) l15 c15 k15
  have F16 := fun_mk (st := s_law_rings) l16 c16 k16
  have F17 := fun_mk (st := s_law_laid) l17 c17 k17
  have F18 := fun_mk (st := s_law_kept) l18 c18 k18
  have F19 := fun_mk (st := s_law_tables) l19 c19 k19
  have F20 := fun_mk (st := s_law_lean) l20 c20 k20
  have F21 := fun_mk (st := s_law_rings_weigh) l21 c21 k21
  have F22 := fun_mk (st := s_law_is) l22 c22 k22
  have F23 := fun_mk (st := s_law_rows_good) l23 c23 k23
  have F24 := fun_mk (st := s_law_weights) l24 c24 k24
  have F25 := fun_mk (st := s_law_twisted_good) l25 c25 k25
  have F26 := fun_mk (st := s_law) l26 c26 k26
  have b0 := F0.binds (ps := ["one", "other"]) fun _ _ _ _ _ _ us hl => match us, hl with | [_, _], _ => rfl
  have b1 := F1.binds (ps := ["n"]) fun _ _ _ _ _ _ us hl => match us, hl with | [_], _ => rfl
  have b2 := F2.binds (ps := ["n", "p"]) fun _ _ _ _ _ _ us hl => match us, hl with | [_, _], _ => rfl
  have b3 := F3.binds (ps := ["n", "rows"]) fun _ _ _ _ _ _ us hl => match us, hl with | [_, _], _ => rfl
  have b4 := F4.binds (ps := ["load", "p", "hole", "many"]) fun _ _ _ _ _ _ us hl => match us, hl with | [_, _, _, _], _ => rfl
  have b5 := F5.binds (ps := ["n", "p", "hole"]) fun _ _ _ _ _ _ us hl => match us, hl with | [_, _, _], _ => rfl
  have b6 := F6.binds (ps := ["load", "weights"]) fun _ _ _ _ _ _ us hl => match us, hl with | [_, _], _ => rfl
  have b7 := F7.binds (ps := ["load", "paper"]) fun _ _ _ _ _ _ us hl => match us, hl with | [_, _], _ => rfl
  have b8 := F8.binds (ps := ["load", "rows"]) fun _ _ _ _ _ _ us hl => match us, hl with | [_, _], _ => rfl
  have b9 := F9.binds (ps := ["load", "weights"]) fun _ _ _ _ _ _ us hl => match us, hl with | [_, _], _ => rfl
  have b10 := F10.binds (ps := ["weights", "p"]) fun _ _ _ _ _ _ us hl => match us, hl with | [_, _], _ => rfl
  have b11 := F11.binds (ps := ["script", "k"]) fun _ _ _ _ _ _ us hl => match us, hl with | [_, _], _ => rfl
  have b12 := F12.binds (ps := ["cell"]) fun _ _ _ _ _ _ us hl => match us, hl with | [_], _ => rfl
  have b13 := F13.binds (ps := ["cell"]) fun _ _ _ _ _ _ us hl => match us, hl with | [_], _ => rfl
  have b14 := F14.binds (ps := ["script", "n", "kind", "kinds"]) fun _ _ _ _ _ _ us hl => match us, hl with | [_, _, _, _], _ => rfl
  have b15 := F15.binds (ps := ["n"]) fun _ _ _ _ _ _ us hl => match us, hl with | [_], _ => rfl
  have b16 := F16.binds (ps := ["script", "n", "kind", "kinds"]) fun _ _ _ _ _ _ us hl => match us, hl with | [_, _, _, _], _ => rfl
  have b17 := F17.binds (ps := ["n", "rows"]) fun _ _ _ _ _ _ us hl => match us, hl with | [_, _], _ => rfl
  have b18 := F18.binds (ps := ["n"]) fun _ _ _ _ _ _ us hl => match us, hl with | [_], _ => rfl
  have b19 := F19.binds (ps := ["n"]) fun _ _ _ _ _ _ us hl => match us, hl with | [_], _ => rfl
  have b20 := F20.binds (ps := ["tables", "hole", "other"]) fun _ _ _ _ _ _ us hl => match us, hl with | [_, _, _], _ => rfl
  have b21 := F21.binds (ps := ["n", "weights"]) fun _ _ _ _ _ _ us hl => match us, hl with | [_, _], _ => rfl
  have b22 := F22.binds (ps := ["load", "told", "due"]) fun _ _ _ _ _ _ us hl => match us, hl with | [_, _, _], _ => rfl
  have b23 := F23.binds (ps := ["script", "n", "rows", "load"]) fun _ _ _ _ _ _ us hl => match us, hl with | [_, _, _, _], _ => rfl
  have b24 := F24.binds (ps := ["script", "n"]) fun _ _ _ _ _ _ us hl => match us, hl with | [_, _], _ => rfl
  have b25 := F25.binds (ps := ["script", "other", "weights", "at"]) fun _ _ _ _ _ _ us hl => match us, hl with | [_, _, _, _], _ => rfl
  have T : Txt K mg C_NoRing := ⟨PySem.W.mg_of X G ac_NoRing, f_x_NoRing, f_m_NoRing, ⟨_, _, F0, b0, PySem.W.mg_of X G a0⟩, ⟨_, _, F1, b1, PySem.W.mg_of X G a1⟩, ⟨_, _, F2, b2, PySem.W.mg_of X G a2⟩, ⟨_, _, F3, b3, PySem.W.mg_of X G a3⟩, ⟨_, _, F4, b4, PySem.W.mg_of X G a4⟩, ⟨_, _, F5, b5, PySem.W.mg_of X G a5⟩, ⟨_, _, F6, b6, PySem.W.mg_of X G a6⟩, ⟨_, _, F7, b7, PySem.W.mg_of X G a7⟩, ⟨_, _, F8, b8, PySem.W.mg_of X G a8⟩, ⟨_, _, F9, b9, PySem.W.mg_of X G a9⟩, ⟨_, _, F10, b10, PySem.W.mg_of X G a10⟩, ⟨_, _, F11, b11, PySem.W.mg_of X G a11⟩, ⟨_, _, F12, b12, PySem.W.mg_of X G a12⟩, ⟨_, _, F13, b13, PySem.W.mg_of X G a13⟩, ⟨_, _, F14, b14, PySem.W.mg_of X G a14⟩, ⟨_, _, F15, b15, PySem.W.mg_of X G a15⟩, ⟨_, _, F16, b16, PySem.W.mg_of X G a16⟩, ⟨_, _, F17, b17, PySem.W.mg_of X G a17⟩, ⟨_, _, F18, b18, PySem.W.mg_of X G a18⟩, ⟨_, _, F19, b19, PySem.W.mg_of X G a19⟩, ⟨_, _, F20, b20, PySem.W.mg_of X G a20⟩, ⟨_, _, F21, b21, PySem.W.mg_of X G a21⟩, ⟨_, _, F22, b22, PySem.W.mg_of X G a22⟩, ⟨_, _, F23, b23, PySem.W.mg_of X G a23⟩, ⟨_, _, F24, b24, PySem.W.mg_of X G a24⟩, ⟨_, _, F25, b25, PySem.W.mg_of X G a25⟩, PySem.W.mg_none_of X G z0, PySem.W.mg_none_of X G z1, PySem.W.mg_none_of X G z2, PySem.W.mg_none_of X G z3, PySem.W.mg_none_of X G z4, PySem.W.mg_none_of X G z5, PySem.W.mg_none_of X G z6, PySem.W.mg_none_of X G z7, PySem.W.mg_none_of X G z8, PySem.W.mg_none_of X G z9, PySem.W.mg_none_of X G z10⟩
  exact ⟨_, fun s v => .of_eq rfl, fun base _ _ => ok_law T F26⟩
theorem walk {l : PySem.W.OpenLaw} {q : Program} {loose : List Str} {XP : (Str → Option Value) → Heap → Prop} {YP : World → Heap → Prop} {d : DefRec} {K : Params → PySem.W.Frag} (hn : l.most = some 63) (hdf : d.params.defaults = [])
    (hY : ∀ (w : World) (h : Heap), YP w h → (K w.params).In h)
    (F : ∀ (w : World) (mg : Str → Option Value) (fa : Addr) (h : Heap), (K w.params).In h → h.Ns mainGlobals mg → mg d.name = some (.ref fa) →
      ∃ fd : FuncData, (∀ (s : Shared) (u : Value), BindsTo s fd ⟨[u], []⟩ [("script", u)]) ∧ ∀ base : Heap, (K w.params).In base → base.Ns mainGlobals mg → FnOk l.prog w (K w.params) mg base CX0 8 fa fd ["script"] (spLaw (K w.params))) :
    PySem.W.WalkO q loose XP YP l.row.toRowW d [] (fun f vs => PySem.call f vs) :=
  L2.walk_of (n := 63) (k := 8) (x := "script") (CX := fun _ => CX0) (sp := fun w => spLaw (K w.params)) hn (by decide) hdf ⟨rfl, by decide, by decide⟩ hY F (fun _ _ a ns hl _ hS => ⟨a, ns, rfl, hS, hl, fun _ => rfl⟩) fun _ _ _ _ _ z => z
end K30
open PySem PySem.W PyProof.Rows
set_option maxRecDepth 100000 in
set_option maxHeartbeats 0 in
theorem PySem.Challenge.cw_evenhub_k30_papers_held_holds : PySem.Challenge.rw_evenhub_k30_papers_held.Holds := by
  w_on; o_law; k_head; (case hw => w_witness2)
  k_fill
  refine K30.walk (l := PySem.Challenge.rw_evenhub_k30_papers_held) rfl rfl (fun w h Y => PySem.W.kIn_of Y) ?F
  case F =>
    intro w mg fa h KX G hmg
    refine' K30.all_mk KX G hmg ?a0 ?l0 ?c0 ?k0 ?a1 ?l1 ?c1 ?k1 ?a2 ?l2 ?c2 ?k2 ?a3 ?l3 ?c3 ?k3 ?a4 ?l4 ?c4 ?k4 ?a5 ?l5 ?c5 ?k5 ?a6 ?l6 ?c6 ?k6 ?a7 ?l7 ?c7 ?k7 ?a8 ?l8 ?c8 ?k8 ?a9 ?l9 ?c9 ?k9 ?a10 ?l10 ?c10 ?k10 ?a11 ?l11 ?c11 ?k11 ?a12 ?l12 ?c12 ?k12 ?a13 ?l13 ?c13 ?k13 ?a14 ?l14 ?c14 ?k14 ?a15 ?l15 ?c15 ?k15 ?a16 ?l16 ?c16 ?k16 ?a17 ?l17 ?c17 ?k17 ?a18 ?l18 ?c18 ?k18 ?a19 ?l19 ?c19 ?k19 ?a20 ?l20 ?c20 ?k20 ?a21 ?l21 ?c21 ?k21 ?a22 ?l22 ?c22 ?k22 ?a23 ?l23 ?c23 ?k23 ?a24 ?l24 ?c24 ?k24 ?a25 ?l25 ?c25 ?k25 ?a26 ?l26 ?c26 ?k26 ?z0 ?z1 ?z2 ?z3 ?z4 ?z5 ?z6 ?z7 ?z8 ?z9 ?z10 ?ac_NoRing ?f_x_NoRing ?f_m_NoRing
    (case a0 => k_is); (case l0 => k_is); (case c0 => k_is); (case k0 => k_is)
    (case a1 => k_is); (case l1 => k_is); (case c1 => k_is); (case k1 => k_is)
    (case a2 => k_is); (case l2 => k_is); (case c2 => k_is); (case k2 => k_is)
    (case a3 => k_is); (case l3 => k_is); (case c3 => k_is); (case k3 => k_is)
    (case a4 => k_is); (case l4 => k_is); (case c4 => k_is); (case k4 => k_is)
    (case a5 => k_is); (case l5 => k_is); (case c5 => k_is); (case k5 => k_is)
    (case a6 => k_is); (case l6 => k_is); (case c6 => k_is); (case k6 => k_is)
    (case a7 => k_is); (case l7 => k_is); (case c7 => k_is); (case k7 => k_is)
    (case a8 => k_is); (case l8 => k_is); (case c8 => k_is); (case k8 => k_is)
    (case a9 => k_is); (case l9 => k_is); (case c9 => k_is); (case k9 => k_is)
    (case a10 => k_is); (case l10 => k_is); (case c10 => k_is); (case k10 => k_is)
    (case a11 => k_is); (case l11 => k_is); (case c11 => k_is); (case k11 => k_is)
    (case a12 => k_is); (case l12 => k_is); (case c12 => k_is); (case k12 => k_is)
    (case a13 => k_is); (case l13 => k_is); (case c13 => k_is); (case k13 => k_is)
    (case a14 => k_is); (case l14 => k_is); (case c14 => k_is); (case k14 => k_is)
    (case a15 => k_is); (case l15 => k_is); (case c15 => k_is); (case k15 => k_is)
    (case a16 => k_is); (case l16 => k_is); (case c16 => k_is); (case k16 => k_is)
    (case a17 => k_is); (case l17 => k_is); (case c17 => k_is); (case k17 => k_is)
    (case a18 => k_is); (case l18 => k_is); (case c18 => k_is); (case k18 => k_is)
    (case a19 => k_is); (case l19 => k_is); (case c19 => k_is); (case k19 => k_is)
    (case a20 => k_is); (case l20 => k_is); (case c20 => k_is); (case k20 => k_is)
    (case a21 => k_is); (case l21 => k_is); (case c21 => k_is); (case k21 => k_is)
    (case a22 => k_is); (case l22 => k_is); (case c22 => k_is); (case k22 => k_is)
    (case a23 => k_is); (case l23 => k_is); (case c23 => k_is); (case k23 => k_is)
    (case a24 => k_is); (case l24 => k_is); (case c24 => k_is); (case k24 => k_is)
    (case a25 => k_is); (case l25 => k_is); (case c25 => k_is); (case k25 => k_is)
    (case a26 => k_is); (case l26 => k_is); (case c26 => k_is); (case k26 => k_is)
    (case z0 => k_is)
    (case z1 => k_is)
    (case z2 => k_is)
    (case z3 => k_is)
    (case z4 => k_is)
    (case z5 => k_is)
    (case z6 => k_is)
    (case z7 => k_is)
    (case z8 => k_is)
    (case z9 => k_is)
    (case z10 => k_is)
    (case ac_NoRing => k_is)
    (case f_x_NoRing => kernel_rfl)
    (case f_m_NoRing => kernel_rfl)
#print axioms PySem.Challenge.cw_evenhub_k30_papers_held_holds
