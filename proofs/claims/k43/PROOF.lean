import PyProof.Rows.All
import Wide.All
import OpenK.AllK
import Wide.FinOn
import Lean
import PyProof.EqAt
import PyProof.EqKinds
import PyProof.TupleCall
import PySem.Challenge.RW_bitferry_k43_spread_rows
set_option Elab.async false
set_option linter.all false
set_option maxRecDepth 100000
/-! THE HAND LAYER, for ints, bools, texts, own classes, LISTS and tuples (index, slices, in, append, pop ..), calls, loops. Paste it whole ahead of your own text; what your proof does not reach may be deleted. -/
namespace L2
open PySem PySem.Spec PyProof.Rows

/-- a key: an int or a str -/
abbrev Key := Sum Int Str
def keyIs : Key → Value → Bool
  | .inl k, v => Value.isInt k v
  | .inr x, v => Value.isStrOf x v
def keyH (w : World) : Key → Int
  | .inl k => hashInt k
  | .inr x => hashStr w x
theorem keyIs_shape : ∀ {k : Key} {v : Value}, keyIs k v = true → (∃ i t, k = Sum.inl i ∧ v = Value.int i t) ∨ (∃ x t, k = Sum.inr x ∧ v = Value.str x t)
  | .inl i, v, h => by
    obtain ⟨t, e⟩ := Value.isInt_shape (k := i) (v := v) h
    exact .inl ⟨i, t, rfl, e⟩
  | .inr x, v, h => by
    obtain ⟨t, e⟩ := Value.isStrOf_shape (x := x) (v := v) h
    exact .inr ⟨x, t, rfl, e⟩
theorem keyIs_int (i : Int) (t : Tok) : keyIs (.inl i) (.int i t) = true := by simp [keyIs, Value.isInt]
theorem keyIs_str (x : Str) (t : Tok) : keyIs (.inr x) (.str x t) = true := by simp [keyIs, Value.isStrOf]
theorem key_ll (a b : Int) : decide ((Sum.inl a : Key) = Sum.inl b) = (a == b) := by
  by_cases e : a = b
  · subst e; simp
  · have h : ¬ (Sum.inl a : Key) = Sum.inl b := fun q => e (Sum.inl.inj q)
    rw [decide_eq_false h]
    exact (beq_eq_false_iff_ne.mpr e).symm
theorem key_rr (a b : Str) : decide ((Sum.inr a : Key) = Sum.inr b) = decide (a = b) := by
  by_cases e : a = b
  · subst e; simp
  · have h : ¬ (Sum.inr a : Key) = Sum.inr b := fun q => e (Sum.inr.inj q)
    rw [decide_eq_false h, decide_eq_false e]
theorem key_lr (a : Int) (b : Str) : decide ((Sum.inl a : Key) = Sum.inr b) = false := decide_eq_false (fun q => nomatch q)
theorem key_rl (a : Str) (b : Int) : decide ((Sum.inr a : Key) = Sum.inl b) = false := decide_eq_false (fun q => nomatch q)

def mixKind (prog : Program) (w : World) : PySem.KeyKind prog w Key where
  is := keyIs
  hash := keyH w
  inj := fun v a b ha hb => by
    rcases keyIs_shape ha with ⟨i, t, rfl, rfl⟩ | ⟨x, t, rfl, rfl⟩
    · rcases keyIs_shape hb with ⟨j, u, rfl, e⟩ | ⟨y, u, rfl, e⟩
      · injection e with e1 _; rw [e1]
      · exact nomatch e
    · rcases keyIs_shape hb with ⟨j, u, rfl, e⟩ | ⟨y, u, rfl, e⟩
      · exact nomatch e
      · injection e with e1 _; rw [e1]
  byValue := fun k v h => by
    rcases keyIs_shape h with ⟨i, t, rfl, rfl⟩ | ⟨x, t, rfl, rfl⟩ <;> rfl
  pyHash := fun hv h => by
    rcases keyIs_shape hv with ⟨i, t, rfl, rfl⟩ | ⟨x, t, rfl, rfl⟩
    · exact wpAny_pyHash_int h
    · exact wpAny_pyHash_str h
  eqBool := fun hu hv h => by
    rcases keyIs_shape hu with ⟨i, t, rfl, rfl⟩ | ⟨x, t, rfl, rfl⟩
    · rcases keyIs_shape hv with ⟨j, u, rfl, rfl⟩ | ⟨y, u, rfl, rfl⟩
      · rw [key_ll] at h; exact wpAny_eqBool_int h
      · rw [key_lr] at h; exact SeqAt.EqAt.int_str i t y u _ _ _ _ h
    · rcases keyIs_shape hv with ⟨j, u, rfl, rfl⟩ | ⟨y, u, rfl, rfl⟩
      · rw [key_rl] at h; exact SeqAt.EqAt.str_int x t j u _ _ _ _ h
      · rw [key_rr] at h; exact wpAny_eqBool_str h
  «strs» := fun k x t v h => by
    rcases keyIs_shape h with ⟨i, u, rfl, e⟩ | ⟨y, u, rfl, e⟩
    · exact nomatch e
    · injection e with e1 _
      subst e1
      cases v <;> rfl

theorem mixKind_is (prog : Program) (w : World) (k : Key) (v : Value) : (mixKind prog w).is k v = keyIs k v := rfl
theorem mixKind_int (prog : Program) (w : World) (i : Int) (t : Tok) : (mixKind prog w).is (.inl i) (.int i t) = true := keyIs_int i t
theorem mixKind_str (prog : Program) (w : World) (x : Str) (t : Tok) : (mixKind prog w).is (.inr x) (.str x t) = true := keyIs_str x t
end L2

namespace L2
open PySem PySem.Spec PyProof.Rows

/-- a value, without the heap -/
inductive V where
  | non | bl (b : Bool) | int (i : Int) | str (x : Str) | byt (b : Array UInt8) | flt (b : UInt64) | ref (a : Addr) | ty (n : String)
  deriving DecidableEq

def RelV : V → Value → Prop
  | .non, u => u = Value.none
  | .bl b, u => u = Value.bool b
  | .int i, u => ∃ t, u = Value.int i t
  | .str x, u => ∃ t, u = Value.str x t
  | .byt b, u => ∃ t, u = Value.bytes b t
  | .flt b, u => ∃ t, u = Value.float b t
  | .ref a, u => u = Value.ref a
  | .ty n, u => u = Value.type n

abbrev Vals : List V → List Value → Prop := Paired RelV
theorem Vals.length {xs : List V} {us : List Value} (r : Vals xs us) : xs.length = us.length := Paired.length r
theorem Vals.get : ∀ {xs : List V} {us : List Value} {i : Nat} {x : V}, Vals xs us → xs[i]? = some x → ∃ u, us[i]? = some u ∧ RelV x u
  | _, _, _, _, .nil, e => by simp at e
  | _, _, 0, _, .cons r _, e => by simp at e; subst e; exact ⟨_, rfl, r⟩
  | _, _, i + 1, x, .cons _ t, e => by
    obtain ⟨u, h1, h2⟩ := Vals.get (i := i) (x := x) t (by simpa using e)
    exact ⟨u, by simpa using h1, h2⟩
theorem Vals.set {x : V} {u : Value} (r : RelV x u) : ∀ {xs : List V} {us : List Value} (i : Nat), Vals xs us → Vals (xs.set i x) (us.set i u)
  | _, _, _, .nil => .nil
  | _, _, 0, .cons _ t => .cons r t
  | _, _, i + 1, .cons q t => .cons q (Vals.set r i t)
theorem Vals.append : ∀ {xs ys : List V} {us ws : List Value}, Vals xs us → Vals ys ws → Vals (xs ++ ys) (us ++ ws)
  | _, _, _, _, .nil, s => s
  | _, _, _, _, .cons r t, s => .cons r (Vals.append t s)
theorem Vals.take : ∀ {xs : List V} {us : List Value} (n : Nat), Vals xs us → Vals (xs.take n) (us.take n)
  | _, _, 0, _ => .nil
  | _, _, _ + 1, .nil => .nil
  | _, _, n + 1, .cons r t => .cons r (Vals.take n t)
theorem Vals.drop : ∀ {xs : List V} {us : List Value} (n : Nat), Vals xs us → Vals (xs.drop n) (us.drop n)
  | _, _, 0, r => r
  | _, _, _ + 1, .nil => .nil
  | _, _, n + 1, .cons _ t => Vals.drop n t
theorem Vals.none_of : ∀ {xs : List V} {us : List Value} {i : Nat}, Vals xs us → xs[i]? = none → us[i]? = none := fun {xs us i} r e => by
  have h1 := r.length
  have h2 : xs.length ≤ i := List.getElem?_eq_none_iff.mp e
  exact List.getElem?_eq_none_iff.mpr (by omega)

def RelO : Option V → Option Value → Prop
  | some v, some u => RelV v u
  | none, none => True
  | _, _ => False
def KV {κ : Type} : List (κ × V) → List (κ × Value) → Prop := Paired fun (p : κ × V) (q : κ × Value) => p.1 = q.1 ∧ RelV p.2 q.2

/-- a key of a dict (00_mix): an int or a text -/
def kV : Key → V
  | .inl i => .int i
  | .inr x => .str x

/-- what stands at a tracked address -/
inductive HO where
  /-- a list -/
  | lst (xs : List V)
  /-- a tuple (never changes) -/
  | tup (xs : List V)
  /-- a dict whose keys are ints and texts; one whose keys are tuples of ints and texts (the empty one is both) -/
  | dK (kvs : List (Key × V)) | dT (kvs : List (List Key × V))
  /-- a set of ints: its members, its size -/
  | set (S : Int → Bool) (n : Nat)
  /-- an instance of the class at C, its dict at dx, its attributes -/
  | ins (C dx : Addr) (fs : List (Str × V))
  /-- the dict of the instance at x -/
  | own (x : Addr)
  /-- the dict of an exception -/
  | xd (fs : List (Str × V))
  /-- a bound method, f of x -/
  | met (f x : Addr)
  /-- a range object lo, lo + 1, .. below hi -/
  | rng (lo hi : Int)
  /-- a thing that is known to the object (the script; a dict while a loop walks it): read, never written while it is so -/
  | frz (o : Obj) (u : HO)
  /-- a code object's table -/
  | tbl (ps : Array Value)
  /-- any other thing, by what is true of its one object (a def of one's own: SetO a S n := HO.ext fun h => ..) -/
  | ext (φ : Heap → Prop)

abbrev Hp := Addr → Option HO
def upd (H : Hp) (a : Addr) (o : HO) : Hp := fun b => if b = a then some o else H b
theorem upd_same {H : Hp} {a : Addr} {o : HO} : upd H a o a = some o := by unfold upd; rw [if_pos rfl]
theorem upd_ne {H : Hp} {a b : Addr} {o : HO} (h : b ≠ a) : upd H a o b = H b := by unfold upd; rw [if_neg h]
theorem upd_upd {H : Hp} {a : Addr} {o u : HO} : upd (upd H a o) a u = upd H a u := by
  funext b; unfold upd; split <;> rfl
/-- two objects of different content stand apart -/
theorem ne_of {H : Hp} {a b : Addr} {o u : HO} (h : H a = some o) (h' : H b = some u) (d : o ≠ u) : a ≠ b := by
  intro e; subst e; rw [h] at h'; exact d (Option.some.inj h')
theorem ne_of_none {H : Hp} {a b : Addr} {o : HO} (h : H a = some o) (h' : H b = none) : a ≠ b := by
  intro e; subst e; rw [h] at h'; cases h'

section
variable (P : Program) (w : World)
def ObjOk (H : Hp) (h : Heap) (a : Addr) : HO → Prop
  | .lst xs => xs.length ≤ sizeLine ∧ ∃ (its : List Value) (n : Nat), Vals xs its ∧ h.get? a = some { cls := .type "list", data := .seq its.toArray n }
  | .tup xs => xs.length ≤ sizeLine ∧ ∃ its : List Value, Vals xs its ∧ IsTup h a its.toArray
  | .dK kvs => kvs.length ≤ sizeLine ∧ (a == sysModules) = false ∧ ∃ vs, KV kvs vs ∧ h.DictOf (mixKind P w) a vs
  | .dT kvs => kvs.length ≤ sizeLine ∧ (a == sysModules) = false ∧ ∃ xs : List (List Key × Addr × Value),
      Paired (fun (p : List Key × V) (q : List Key × Addr × Value) => p.1 = q.1 ∧ H q.2.1 = some (.tup (p.1.map kV)) ∧ RelV p.2 q.2.2) kvs xs ∧
      ∃ o es ep, h.get? a = some o ∧ o.ExactDict ∧ o.data = .dict es ep ∧ es.toList = xs.map (entryOfKey (tupleKind (mixKind P w))) ∧ (xs.map (·.1)).Nodup
  | .set S n => h.SetOf (intKind P w) a S n
  | .ins C dx fs => H dx = some (.own a) ∧ fs.length ≤ 1000 ∧ dx ≠ a ∧ h.get? a = some (PySem.W.instObj C dx) ∧
      ∃ mA, h.Ns1 dx mA ∧ (∀ f, RelO (fs.lookup f) (mA f)) ∧ PySem.Within mA (fs.map (·.1))
  | .own _ => ∃ o, h.get? a = some o
  | .xd fs => ∃ mA, h.Ns1 a mA ∧ ∀ f, RelO (fs.lookup f) (mA f)
  | .rng lo hi => ∃ t u v, h.get? a = some { cls := .type "range", data := .fields #[.int lo t, .int hi u, .int 1 v] }
  | .frz o u => h.get? a = some o ∧ ObjOk H h a u
  | .tbl ps => h.get? a = some { cls := .none, data := .fields ps }
  | .met f x => h.get? a = some (PySem.W.methodObj (.ref f) (.ref x))
  | .ext φ => φ h ∧ (∃ o, h.get? a = some o) ∧ ∀ h1 h2 : Heap, φ h1 → (∀ o, h1.get? a = some o → h2.get? a = some o) → φ h2
/-- the abstract heap is held -/
def HOk (H : Hp) (h : Heap) : Prop := ∀ a o, H a = some o → ObjOk P w H h a o
end

section
variable {P : Program} {w : World} {H H' : Hp} {h h' : Heap} {a : Addr} {o : HO}
theorem ObjOk.lt (x : ObjOk P w H h a o) : a < h.objs.size := by
  cases o with
  | lst xs => obtain ⟨_, _, _, _, e⟩ := x; exact Heap.lt_size e
  | tup xs => obtain ⟨_, _, _, p⟩ := x; exact p.lt
  | dK kvs => obtain ⟨_, _, _, _, o, _, _, e, _⟩ := x; exact Heap.lt_size e
  | dT kvs => obtain ⟨_, _, _, _, o, _, _, e, _⟩ := x; exact Heap.lt_size e
  | set S n => obtain ⟨o, _, _, _, e, _⟩ := x; exact Heap.lt_size e
  | ins C dx fs => obtain ⟨_, _, _, e, _⟩ := x; exact Heap.lt_size e
  | own y => obtain ⟨_, e⟩ := x; exact Heap.lt_size e
  | xd fs => obtain ⟨_, ⟨_, _, _, e, _⟩, _⟩ := x; exact Heap.lt_size e
  | rng lo hi => obtain ⟨_, _, _, e⟩ := x; exact Heap.lt_size e
  | frz ob u => obtain ⟨e, _⟩ := x; exact Heap.lt_size e
  | tbl ps => exact Heap.lt_size (show h.get? a = some _ from x)
  | met f y => exact Heap.lt_size (show h.get? a = some _ from x)
  | ext φ => obtain ⟨_, ⟨_, e⟩, _⟩ := x; exact Heap.lt_size e
theorem Paired.mapP {α β : Type} {F G : α → β → Prop} : ∀ {l₁ : List α} {l₂ : List β}, Paired F l₁ l₂ → (∀ a b, F a b → G a b) → Paired G l₁ l₂
  | _, _, .nil, _ => .nil
  | _, _, .cons r t, f => .cons (f _ _ r) (Paired.mapP t f)
theorem Paired.imp' {α β : Type} {F G : α → β → Prop} (f : ∀ a b, F a b → G a b) {l₁ : List α} {l₂ : List β} (r : Paired F l₁ l₂) : Paired G l₁ l₂ := Paired.mapP r f
/-- what an object's description leans on: its own object, its own dict, the tuples -/
theorem ObjOk.stay (x : ObjOk P w H h a o) (k : ∀ b u, (b = a ∨ H b = some (.own a)) → h.get? b = some u → h'.get? b = some u)
    (ho : ∀ b, H b = some (.own a) → H' b = some (.own a)) (ht : ∀ b xs, H b = some (.tup xs) → H' b = some (.tup xs)) : ObjOk P w H' h' a o := by
  induction o with
  | lst xs => obtain ⟨z, its, n, r, e⟩ := x; exact ⟨z, its, n, r, k _ _ (.inl rfl) e⟩
  | tup xs => obtain ⟨z, its, r, ob, e, c⟩ := x; exact ⟨z, its, r, ob, k _ _ (.inl rfl) e, c⟩
  | dK kvs => obtain ⟨z, y, vs, r, ob, es, ep, e, c⟩ := x; exact ⟨z, y, vs, r, ob, es, ep, k _ _ (.inl rfl) e, c⟩
  | dT kvs =>
    obtain ⟨z, y, xs, r, ob, es, ep, e, c⟩ := x
    exact ⟨z, y, xs, Paired.mapP r fun p q z => ⟨z.1, ht _ _ z.2.1, z.2.2⟩, ob, es, ep, k _ _ (.inl rfl) e, c⟩
  | set S n => obtain ⟨ob, es, ep, t, e, c⟩ := x; exact ⟨ob, es, ep, t, k _ _ (.inl rfl) e, c⟩
  | ins C dx fs =>
    obtain ⟨d, z, ne, e, mA, ⟨od, es, ep, e2, c⟩, r⟩ := x
    exact ⟨ho _ d, z, ne, k _ _ (.inl rfl) e, mA, ⟨od, es, ep, k _ _ (.inr d) e2, c⟩, r⟩
  | own y => obtain ⟨ob, e⟩ := x; exact ⟨ob, k _ _ (.inl rfl) e⟩
  | xd fs => obtain ⟨mA, ⟨od, es, ep, e, c⟩, r⟩ := x; exact ⟨mA, ⟨od, es, ep, k _ _ (.inl rfl) e, c⟩, r⟩
  | rng lo hi => obtain ⟨t, u, v, e⟩ := x; exact ⟨t, u, v, k _ _ (.inl rfl) e⟩
  | frz ob u ih => obtain ⟨e, q⟩ := x; exact ⟨k _ _ (.inl rfl) e, ih q⟩
  | tbl ps =>
    have e : h.get? a = some { cls := .none, data := .fields ps } := x
    show h'.get? a = some { cls := .none, data := .fields ps }
    exact k a _ (.inl rfl) e
  | met f y =>
    have e : h.get? a = some (PySem.W.methodObj (.ref f) (.ref y)) := x
    show h'.get? a = some (PySem.W.methodObj (.ref f) (.ref y))
    exact k a _ (.inl rfl) e
  | ext φ => obtain ⟨p, ⟨o, e⟩, st⟩ := x; exact ⟨st _ _ p fun o q => k _ _ (.inl rfl) q, ⟨o, k _ _ (.inl rfl) e⟩, st⟩
theorem HOk.lt (x : HOk P w H h) (e : H a = some o) : a < h.objs.size := (x a o e).lt
theorem HOk.fresh (x : HOk P w H h) (e : h.objs.size ≤ a) : H a = none := by
  cases q : H a with
  | none => rfl
  | some u => exact absurd (Nat.lt_of_lt_of_le (x.lt q) e) (Nat.lt_irrefl _)
/-- every object of the heap is kept -/
theorem HOk.kept (x : HOk P w H h) (k : ∀ b u, h.get? b = some u → h'.get? b = some u) : HOk P w H h' := fun a o e =>
  (x a o e).stay (fun b u _ q => k b u q) (fun _ q => q) fun _ _ q => q
/-- a new object is laid and tracked -/
theorem HOk.laid (x : HOk P w H h) (k : ∀ b u, h.get? b = some u → h'.get? b = some u) (hp : h.objs.size ≤ a) (new : ObjOk P w (upd H a o) h' a o) : HOk P w (upd H a o) h' := fun b u e => by
  have hn := x.fresh hp
  by_cases hb : b = a
  · subst hb; rw [upd_same] at e; cases e; exact new
  · rw [upd_ne hb] at e
    exact (x b u e).stay (fun c v _ q => k c v q) (fun c q => by rw [upd_ne (ne_of_none q hn)]; exact q) fun c xs q => by rw [upd_ne (ne_of_none q hn)]; exact q
end

/-- what may be read as u: it is u, or a known u -/
def Rd (H : Hp) (a : Addr) (u : HO) : Prop := H a = some u ∨ ∃ o, H a = some (.frz o u)
theorem Rd.of {H : Hp} {a : Addr} {u : HO} (h : H a = some u) : Rd H a u := .inl h
theorem Rd.ok {P : Program} {w : World} {H : Hp} {h : Heap} {a : Addr} {u : HO} (r : Rd H a u) (x : HOk P w H h) : ObjOk P w H h a u := by
  rcases r with r | ⟨o, r⟩
  · exact x a u r
  · obtain ⟨_, q⟩ := x a _ r
    exact q
/-- what may be written -/
def Mut : Option HO → Prop
  | some (.lst _) => True
  | some (.dK _) => True
  | some (.dT _) => True
  | some (.set _ _) => True
  | some (.ins _ _ _) => True
  | some (.ext _) => True
  | _ => False
section
variable {P : Program} {w : World} {H : Hp} {h h' : Heap} {x e : Addr} {o' : HO}
/-- the object at e is changed: x itself, or the dict of the instance x -/
theorem HOk.write (ok : HOk P w H h) (mu : Mut (H x)) (he : e = x ∨ H e = some (.own x)) (k : ∀ b u, b ≠ e → h.get? b = some u → h'.get? b = some u) (heo : ∃ u, h'.get? e = some u)
    (new : ObjOk P w (upd H x o') h' x o') : HOk P w (upd H x o') h' := fun b u q => by
  have nown : ∀ c y, H c = some (.own y) → c ≠ x := fun c y r z => by subst z; rw [r] at mu; exact mu
  have ntup : ∀ c xs, H c = some (.tup xs) → c ≠ x := fun c xs r z => by subst z; rw [r] at mu; exact mu
  by_cases hb : b = x
  · subst hb; rw [upd_same] at q; cases q; exact new
  · rw [upd_ne hb] at q
    by_cases hbe : b = e
    · have q' : H b = some (.own x) := by
        rcases he with z | z
        · exact absurd (hbe.trans z) hb
        · rw [hbe]; exact z
      rw [q] at q'; cases q'
      obtain ⟨v, hv⟩ := heo
      exact ⟨v, by rw [hbe]; exact hv⟩
    · refine (ok b u q).stay (fun c v hc r => k c v ?_ r) (fun c r => by rw [upd_ne (nown c b r)]; exact r) fun c xs r => by rw [upd_ne (ntup c xs r)]; exact r
      rcases hc with rfl | hc
      · exact hbe
      · rintro rfl
        rcases he with z | z
        · exact nown c b hc z
        · rw [hc] at z; cases z; exact hb rfl
end

/-! ### kept unless tracked; of the frames at fs (the callers') the slots may change (an exception that passes writes there); of the records at ex (iterators) nothing is said -/
structure Un (fs ex : List Addr) (H H' : Hp) (h h' : Heap) : Prop where
  keep : ∀ b o, h.get? b = some o → H b = none → b ∉ fs → b ∉ ex → h'.get? b = some o
  slot : ∀ b o, h.get? b = some o → H b = none → b ∈ fs → b ∉ ex → ∃ sl, h'.get? b = some { o with slots := sl }
  free : ∀ b o, h.get? b = some o → H b = none → b ∉ ex → H' b = none
  there : ∀ b o, h.get? b = some o → b ∉ ex → ∃ o', h'.get? b = some o'
  tups : ∀ b xs, H b = some (.tup xs) → H' b = some (.tup xs)
  frzs : ∀ b o u, H b = some (.frz o u) → H' b = some (.frz o u)
  tbls : ∀ b ps, H b = some (.tbl ps) → ∃ more, H' b = some (.tbl (ps ++ more))
section
variable {fs fs' ex ex' : List Addr} {H H1 H2 : Hp} {h h1 h2 h' : Heap} {a x e : Addr} {o : HO}
theorem Un.any (u : Un fs ex H H1 h h1) {b : Addr} {ob : Obj} (q : h.get? b = some ob) (n : H b = none) (hx : b ∉ ex) : ∃ sl, h1.get? b = some { ob with slots := sl } := by
  by_cases hb : b ∈ fs
  · exact u.slot b ob q n hb hx
  · exact ⟨ob.slots, u.keep b ob q n hb hx⟩
theorem Un.trans (a : Un fs ex H H1 h h1) (b : Un fs ex H1 H2 h1 h2) : Un fs ex H H2 h h2 where
  keep := fun c ob q n hc hx => b.keep c ob (a.keep c ob q n hc hx) (a.free c ob q n hx) hc hx
  slot := fun c ob q n hc hx => by
    obtain ⟨sl, e1⟩ := a.slot c ob q n hc hx
    obtain ⟨sl', e2⟩ := b.slot c _ e1 (a.free c ob q n hx) hc hx
    exact ⟨sl', e2⟩
  free := fun c ob q n hx => by
    obtain ⟨o', e1⟩ := a.there c ob q hx
    exact b.free c o' e1 (a.free c ob q n hx) hx
  there := fun c ob q hx => by
    obtain ⟨o', e1⟩ := a.there c ob q hx
    exact b.there c o' e1 hx
  tups := fun c xs q => b.tups c xs (a.tups c xs q)
  frzs := fun c ob xs q => b.frzs c ob xs (a.frzs c ob xs q)
  tbls := fun c ps q => by
    obtain ⟨m1, e1⟩ := a.tbls c ps q
    obtain ⟨m2, e2⟩ := b.tbls c _ e1
    exact ⟨m1 ++ m2, by rw [e2, Array.append_assoc]⟩
theorem Un.kept (k : ∀ b u, h.get? b = some u → h'.get? b = some u) : Un fs ex H H h h' :=
  ⟨fun b ob q _ _ _ => k b ob q, fun b ob q _ _ _ => ⟨ob.slots, k b ob q⟩, fun _ _ _ n _ => n, fun b ob q _ => ⟨ob, k b ob q⟩, fun _ _ q => q, fun _ _ _ q => q, fun _ ps q => ⟨#[], by rw [q]; simp⟩⟩
theorem Un.refl : Un fs ex H H h h := Un.kept fun _ _ q => q
theorem Un.laid (k : ∀ b u, h.get? b = some u → h'.get? b = some u) (hp : h.objs.size ≤ a) (hn : H a = none) : Un fs ex H (upd H a o) h h' where
  keep := fun b u q _ _ _ => k b u q
  slot := fun b u q _ _ _ => ⟨u.slots, k b u q⟩
  free := fun b u q n _ => by rw [upd_ne (Nat.ne_of_lt (Nat.lt_of_lt_of_le (Heap.lt_size q) hp))]; exact n
  there := fun b u q _ => ⟨u, k b u q⟩
  tups := fun b xs q => by rw [upd_ne (ne_of_none q hn)]; exact q
  frzs := fun b u xs q => by rw [upd_ne (ne_of_none q hn)]; exact q
  tbls := fun b ps q => ⟨#[], by rw [upd_ne (ne_of_none q hn), q]; simp⟩
theorem Un.write (mu : Mut (H x)) (he : e = x ∨ H e = some (.own x)) (k : ∀ b u, b ≠ e → h.get? b = some u → h'.get? b = some u) (heo : ∃ u, h'.get? e = some u) : Un fs ex H (upd H x o) h h' := by
  have hx : ∀ b, H b = none → b ≠ x := fun b n z => by subst z; rw [n] at mu; exact mu
  have hb : ∀ b, H b = none → b ≠ e := fun b n z => by
    subst z
    rcases he with r | r
    · exact hx b n r
    · rw [n] at r; cases r
  have hm : ∀ b u, H b = some u → ¬ Mut (some u) → b ≠ x := fun b u q nm z => by subst z; rw [q] at mu; exact nm mu
  refine ⟨fun b u q n _ _ => k b u (hb b n) q, fun b u q n _ _ => ⟨u.slots, k b u (hb b n) q⟩, fun b u q n _ => by rw [upd_ne (hx b n)]; exact n, fun b u q _ => ?_,
    fun b xs q => by rw [upd_ne (hm b _ q fun z => z)]; exact q, fun b u xs q => by rw [upd_ne (hm b _ q fun z => z)]; exact q, fun b ps q => ⟨#[], by rw [upd_ne (hm b _ q fun z => z), q]; simp⟩⟩
  by_cases hbe : b = e
  · subst hbe; exact heo
  · exact ⟨u, k b u hbe q⟩
theorem Un.mono (u : Un fs ex H H1 h h1) (hs : ∀ b ∈ fs, b ∈ fs') (hx : ∀ b ∈ ex, b ∈ ex') : Un fs' ex' H H1 h h1 :=
  ⟨fun b ob q n hb he => u.keep b ob q n (fun z => hb (hs b z)) fun z => he (hx b z), fun _ _ q n _ he => u.any q n fun z => he (hx _ z), fun b ob q n he => u.free b ob q n fun z => he (hx b z), fun b ob q he => u.there b ob q fun z => he (hx b z), u.tups, u.frzs, u.tbls⟩
end

/-! ### the heap without what is tracked -/
def trk (h : Heap) (H : Hp) : List Addr := (List.range h.objs.size).filter fun a => (H a).isSome
def hidT (h : Heap) (H : Hp) : Heap := PySem.W.hideAll h (trk h H)
theorem hidT_size (h : Heap) (H : Hp) : (hidT h H).objs.size = h.objs.size := PySem.W.hideAll_size _ _
theorem hidT_get {h : Heap} {H : Hp} {b : Addr} {o : Obj} (e : h.get? b = some o) (n : H b = none) : (hidT h H).get? b = some o :=
  PySem.W.hideAll_get _ e fun hm => by
    have q : (H b).isSome = true := (List.mem_filter.mp hm).2
    rw [n] at q; simp at q
theorem of_hidT {h : Heap} {H : Hp} {b : Addr} {o : Obj} (e : (hidT h H).get? b = some o) : h.get? b = some o ∧ H b = none := by
  have e' : h.get? b = some o := PySem.W.of_hideAll (trk h H) e
  refine ⟨e', ?_⟩
  cases q : H b with
  | none => rfl
  | some x =>
    have hm : b ∈ trk h H := List.mem_filter.mpr ⟨List.mem_range.mpr (Heap.lt_size e'), by simp [q]⟩
    have z : (hidT h H).get? b = none := PySem.W.hideAll_none (trk h H) hm
    rw [z] at e; cases e

/-! ### OpenK's ledger, filled with every new object but one -/
def allNews (g h : Heap) (L : Addr) : List (Addr × Obj) := (List.range h.objs.size).filterMap fun a => if a = L ∨ (g.get? a).isSome = true then none else (h.get? a).map fun o => (a, o)
theorem mem_allNews {g h : Heap} {L a : Addr} {o : Obj} (h1 : a ≠ L) (h2 : g.get? a = none) (h3 : h.get? a = some o) : (a, o) ∈ allNews g h L :=
  List.mem_filterMap.mpr ⟨a, List.mem_range.mpr (Heap.lt_size h3), by simp [h1, h2, h3]⟩
theorem of_mem_allNews {g h : Heap} {L : Addr} {p : Addr × Obj} (hp : p ∈ allNews g h L) : p.1 ≠ L ∧ g.get? p.1 = none ∧ h.get? p.1 = some p.2 := by
  obtain ⟨b, _, e⟩ := List.mem_filterMap.mp hp
  split at e
  · cases e
  · rename_i hn
    cases q : h.get? b with
    | none => rw [q] at e; simp at e
    | some u =>
      rw [q] at e
      simp only [Option.map_some, Option.some.injEq] at e
      subst e
      refine ⟨fun z => hn (.inl z), ?_, q⟩
      show g.get? b = none
      cases r : g.get? b with
      | none => rfl
      | some v => exact (hn (.inr (by simp [r]))).elim
def rest (g h : Heap) (L d : Addr) : List (Addr × Obj) := (allNews g h L).filter fun p => decide (p.1 ≠ d)
theorem rest_ne {g h : Heap} {L d : Addr} : ∀ p ∈ rest g h L d, p.1 ≠ d := fun p hp => of_decide_eq_true (List.mem_filter.mp hp).2
theorem mem_rest {g h : Heap} {L d a : Addr} {o : Obj} (h1 : a ≠ L) (h2 : g.get? a = none) (h3 : h.get? a = some o) (h4 : a ≠ d) : (a, o) ∈ rest g h L d :=
  List.mem_filter.mpr ⟨mem_allNews h1 h2 h3, decide_eq_true h4⟩
theorem news_all {g h : Heap} {L : Addr} : News g L h (allNews g h L) := fun p hp => let ⟨a, b, c⟩ := of_mem_allNews hp; ⟨c, a, b⟩
theorem news_at {g h : Heap} {L d : Addr} {o : Obj} (h1 : d ≠ L) (h2 : g.get? d = none) (h3 : h.get? d = some o) : News g L h ((d, o) :: rest g h L d) := fun p hp => by
  rcases List.mem_cons.mp hp with rfl | hp
  · exact ⟨h3, h1, h2⟩
  · exact news_all p (List.mem_filter.mp hp).1
/-- behind a rule that changed d alone: all else but the frame is kept -/
theorem kept_of_news {g h h' : Heap} {L d : Addr} {m : Str → Option Value} (k : ∀ b o, g.get? b = some o → h.get? b = some o) (F : Fr g L h' m) (N : News g L h' (rest g h L d)) :
    ∀ b o, b ≠ L → b ≠ d → h.get? b = some o → h'.get? b = some o := fun b o h1 h2 e => by
  cases q : g.get? b with
  | some u =>
    have := k b u q
    rw [e] at this; cases this
    exact F.keep b _ q
  | none => exact (N (b, o) (mem_rest h1 q e h2)).1
end L2

namespace L2
open PySem PySem.Spec PyProof.Rows

/-- the module's facts, over the base: the heap at the law's entry without what is tracked there -/
structure Mod (K : PySem.W.Frag) (mg : Str → Option Value) (base : Heap) : Prop where
  kin : K.In base
  glob : base.Ns mainGlobals mg
  blt : ∃ mb, base.Ns builtinsNs mb ∧ ∀ x : Str, x ≠ "__name__" → mb x = bootBuiltins x
  nolimit : base.NoLimit

/-- the context: a def's body (or a comprehension's block) running. base: fixed through the whole law; s₀, H₀: the entry; outer: the frames whose slots others may change (a def's callers); stack: all frames that run;
   ex: iterators that were made ahead of the entry and are walked here (a comprehension's); fn: the names whose cells were made at the entry (a def: all; a comprehension's block: its own); calm: not within an except suite; pn: pins that every state bears; xe: what is wanted of an exception that leaves the code -/
structure Cx where
  prog : Program
  w : World
  K : PySem.W.Frag
  mg : Str → Option Value
  base : Heap
  A : Around
  N : List Str
  s₀ : Shared
  H₀ : Hp
  env : Env
  outer : List Env
  stack : List Env
  ex : List Addr
  fn : Str → Bool
  calm : Bool
  pn : List (Addr × Obj)
  xe : Value → Shared → Prop
/-- the callers' frames -/
def frs (l : List Env) : List Addr := l.filterMap (·.frame)
abbrev Cx.fs (X : Cx) : List Addr := frs X.outer

def Vis (sc : Scope) (x : Str) : Prop := sc.names.lookup x = some .local ∨ sc.names.lookup x = some .cell ∨ sc.names.lookup x = some .free
def Loc (sc : Scope) (x : Str) : Prop := sc.names.lookup x = some .local ∨ sc.names.lookup x = some .cell
def Look (env : Env) (h : Heap) (m : Str → Option Value) (x : Str) (u : Value) : Prop :=
  (env.kindOf x = some .local ∧ m x = some u) ∨ ((env.kindOf x = some .cell ∨ env.kindOf x = some .free) ∧ ∃ c, env.cells.lookup x = some c ∧ h.IsCell c (some u))

structure Cx.Ok (X : Cx) : Prop where
  mod : Mod X.K X.mg X.base
  kind : X.env.scope.kind = .function
  glob : X.env.globals = mainGlobals
  blt : X.env.builtins = builtinsNs
  above : X.s₀.heap.objs.size ≤ X.env.locals
  inj : ∀ x y c, X.env.cells.lookup x = some c → X.env.cells.lookup y = some c → x = y
  has : ∀ x, (X.env.kindOf x = some .cell ∨ X.env.kindOf x = some .free) → ∃ c, X.env.cells.lookup x = some c
  cab : ∀ x c, X.fn x = true → X.env.cells.lookup x = some c → X.s₀.heap.objs.size ≤ c
  hd : X.calm = true → X.A.handled = none
  frames : X.A.frames = some X.stack
  stk : X.stack = X.outer ∨ (X.stack = X.env :: X.outer ∧ X.env.frame = some X.env.locals)
  exf : ∀ b ∈ X.ex, b ≠ X.env.locals ∧ ∀ x c, X.env.cells.lookup x = some c → c ≠ b
  bs : ∀ b o, X.base.get? b = some o → X.s₀.heap.get? b = some o ∧ X.H₀ b = none
  bsz : X.base.objs.size ≤ X.s₀.heap.objs.size
  noex : ∀ b o, X.base.get? b = some o → b ∉ X.ex
  exfs : ∀ b ∈ X.ex, b ∉ X.fs
  funs : X.s₀.heap.FunFrames X.base X.outer
  frf : ∀ b ∈ X.fs, X.H₀ b = none

structure Inv (X : Cx) (pins : List (Addr × Obj)) (σ : List (Option V)) (H : Hp) (s : Shared) : Prop where
  ok : X.Ok
  os : s.os = X.s₀.os
  bare : AllBare s.gens
  base : Un X.fs X.ex X.H₀ H X.s₀.heap s.heap
  loc : ∃ m, s.heap.Ns X.env.locals m ∧ ∀ (i : Nat) (x : Str) (v : V), X.N[i]? = some x → σ[i]? = some (some v) → Vis X.env.scope x → ∃ u, RelV v u ∧ Look X.env s.heap m x u
  cell : ∀ x c, X.env.cells.lookup x = some c → ∃ v, s.heap.IsCell c v
  free : H X.env.locals = none
  freeC : ∀ x c, X.env.cells.lookup x = some c → H c = none
  pin : ∀ p ∈ X.pn ++ pins, s.heap.get? p.1 = some p.2 ∧ H p.1 = none ∧ p.1 ≠ X.env.locals ∧ p.1 ∉ X.fs ∧ ∀ v, p.2.data ≠ .cell v
  hok : HOk X.prog X.w H s.heap
  len : σ.length = X.N.length

section
variable {X : Cx} {pins : List (Addr × Obj)} {σ : List (Option V)} {H H' : Hp} {s : Shared} {h' : Heap}

theorem Cx.Ok.nofr (ok : X.Ok) {b : Addr} {o : Obj} (e : X.base.get? b = some o) : b ∉ X.fs := fun hb => by
  have := (ok.funs.mem hb).1
  rw [e] at this; cases this
theorem Inv.bs (I : Inv X pins σ H s) : ∀ b o, X.base.get? b = some o → s.heap.get? b = some o ∧ H b = none := fun b o e =>
  ⟨I.base.keep b o (I.ok.bs b o e).1 (I.ok.bs b o e).2 (I.ok.nofr e) (I.ok.noex b o e), I.base.free b o (I.ok.bs b o e).1 (I.ok.bs b o e).2 (I.ok.noex b o e)⟩
theorem Inv.bk (I : Inv X pins σ H s) : ∀ b o, X.base.get? b = some o → s.heap.get? b = some o := fun b o e => (I.bs b o e).1
theorem Inv.mod (I : Inv X pins σ H s) : Mod X.K X.mg X.base := I.ok.mod
theorem Inv.kIn (I : Inv X pins σ H s) : X.K.In s.heap := I.ok.mod.kin.keeps I.bk
theorem Inv.nolimit (I : Inv X pins σ H s) : s.heap.NoLimit := I.ok.mod.nolimit.keeps I.bk
/-- the frame over the base: for OpenK's rules (K.In X.base is I.mod.kin) -/
theorem Inv.fr (I : Inv X pins σ H s) : ∃ m, Fr X.base X.env.locals s.heap m :=
  let ⟨m, hn, _⟩ := I.loc
  ⟨m, hn, I.bk, Nat.le_trans I.ok.bsz I.ok.above⟩
theorem Inv.lt (I : Inv X pins σ H s) : X.env.locals < s.heap.objs.size := let ⟨_, hn, _⟩ := I.loc; hn.lt
theorem Inv.sz (I : Inv X pins σ H s) : X.s₀.heap.objs.size ≤ s.heap.objs.size := Nat.le_trans I.ok.above (Nat.le_of_lt I.lt)
theorem Inv.nofs (I : Inv X pins σ H s) {a : Addr} (h : s.heap.objs.size ≤ a) : a ∉ X.fs := fun hb => by
  obtain ⟨_, o, ho, _⟩ := I.ok.funs.mem hb
  exact absurd (Nat.lt_of_lt_of_le (Heap.lt_size ho) (Nat.le_trans I.sz h)) (Nat.lt_irrefl _)
theorem Inv.cne (I : Inv X pins σ H s) : ∀ x c, X.env.cells.lookup x = some c → c ≠ X.env.locals := fun x c e z => by
  obtain ⟨v, o, ho, hd⟩ := I.cell x c e
  obtain ⟨m, ⟨o', es, ep, ho', hd', _⟩, _⟩ := I.loc
  rw [z, ho'] at ho; cases ho; rw [hd'] at hd; cases hd
theorem Inv.funs (I : Inv X pins σ H s) : s.heap.FunFrames X.base X.outer := by
  have all : ∀ (l : List Env), (∀ b ∈ frs l, b ∈ X.fs) → X.s₀.heap.FunFrames X.base l → s.heap.FunFrames X.base l := by
    intro l
    induction l with
    | nil => intro _ _; trivial
    | cons env r ih =>
      intro hs hl
      obtain ⟨hk, ⟨L, o, hf, hn, ho, hd⟩, hr⟩ := hl
      have hL : L ∈ X.fs := hs L (by unfold frs; rw [List.filterMap_cons, hf]; exact List.mem_cons_self)
      obtain ⟨sl, e⟩ := I.base.slot L o ho (I.ok.frf L hL) hL fun z => I.ok.exfs L z hL
      exact ⟨hk, ⟨L, _, hf, hn, e, hd⟩, ih (fun b hb => hs b (by unfold frs; rw [List.filterMap_cons, hf]; exact List.mem_cons_of_mem _ hb)) hr⟩
  exact all X.outer (fun _ hb => hb) I.ok.funs

/-- the frames that run, for a call -/
theorem Inv.stack (I : Inv X pins σ H s) : s.heap.FunFrames X.base X.stack := by
  rcases I.ok.stk with e | ⟨e, hf⟩
  · rw [e]; exact I.funs
  · rw [e]
    obtain ⟨m, hn, _⟩ := I.loc
    refine .cons (by rw [I.ok.kind]; decide) hf hn ?_ I.funs
    exact Heap.get?_none_of_le (Nat.le_trans I.ok.bsz I.ok.above)
theorem Inv.stkSub (I : Inv X pins σ H s) : ∀ b ∈ frs X.stack, b ∈ X.env.locals :: X.fs := fun b hb => by
  rcases I.ok.stk with e | ⟨e, hf⟩
  · rw [e] at hb; exact List.mem_cons_of_mem _ hb
  · rw [e] at hb
    unfold frs at hb
    rw [List.filterMap_cons, hf] at hb
    exact hb
theorem Inv.stkFree (I : Inv X pins σ H s) : ∀ b ∈ frs X.stack, H b = none := fun b hb => by
  rcases List.mem_cons.mp (I.stkSub b hb) with e | hb
  · rw [e]; exact I.free
  · obtain ⟨_, o, ho, _⟩ := I.ok.funs.mem hb
    exact I.base.free b o ho (I.ok.frf b hb) fun z => I.ok.exfs b z hb

/-- THE STEP: the untracked objects but the frame and the records at ch are kept (the callers' frames up to slots), the frame's map is kept, the new abstract heap is held -/
theorem Inv.step {g' : Array GenState} {t' : Nat} {d' : Drawn} {ch : List Addr} (I : Inv X pins σ H s)
    (hch : ∀ b ∈ ch, (b ∈ X.ex ∨ X.s₀.heap.objs.size ≤ b) ∧ b ≠ X.env.locals ∧ (∀ x c, X.env.cells.lookup x = some c → c ≠ b) ∧ ∀ p ∈ X.pn ++ pins, p.1 ≠ b)
    (keep : ∀ b o, b ≠ X.env.locals → b ∉ X.fs → b ∉ ch → s.heap.get? b = some o → H b = none → h'.get? b = some o)
    (slot : ∀ b o, b ≠ X.env.locals → b ∈ X.fs → b ∉ ch → s.heap.get? b = some o → H b = none → ∃ sl, h'.get? b = some { o with slots := sl }) (free : ∀ b o, b ∉ ch → s.heap.get? b = some o → H b = none → H' b = none)
    (there : ∀ b o, b ∉ ch → s.heap.get? b = some o → ∃ o', h'.get? b = some o')
    (tups : ∀ b xs, H b = some (.tup xs) → H' b = some (.tup xs)) (frzs : ∀ b o u, H b = some (.frz o u) → H' b = some (.frz o u)) (tbls : ∀ b ps, H b = some (.tbl ps) → ∃ more, H' b = some (.tbl (ps ++ more)))
    (ns : ∀ m, s.heap.Ns X.env.locals m → h'.Ns X.env.locals m) (hok : HOk X.prog X.w H' h') (hg : AllBare g') :
    Inv X pins σ H' { s with heap := h', gens := g', drawn := d', toks := t' } := by
  have neL : ∀ b o, X.s₀.heap.get? b = some o → b ≠ X.env.locals := fun b o e => Nat.ne_of_lt (Nat.lt_of_lt_of_le (Heap.lt_size e) I.ok.above)
  have neC : ∀ b o, X.s₀.heap.get? b = some o → b ∉ X.ex → b ∉ ch := fun b o e hx hb => by
    rcases (hch b hb).1 with z | z
    · exact hx z
    · exact absurd (Nat.lt_of_lt_of_le (Heap.lt_size e) z) (Nat.lt_irrefl _)
  have cellK : ∀ x c, X.env.cells.lookup x = some c → ∀ v, s.heap.IsCell c v → h'.IsCell c v := fun x c e v ⟨o, ho, hd⟩ => by
    have nch : c ∉ ch := fun z => (hch c z).2.2.1 x c e rfl
    by_cases hc : c ∈ X.fs
    · obtain ⟨sl, q⟩ := slot c o (I.cne x c e) hc nch ho (I.freeC x c e)
      exact ⟨_, q, hd⟩
    · exact ⟨o, keep c o (I.cne x c e) hc nch ho (I.freeC x c e), hd⟩
  refine ⟨I.ok, I.os, hg, ⟨fun b o e n hb hx => ?_, fun b o e n hb hx => ?_, fun b o e n hx => ?_, fun b o e hx => ?_, fun b xs e => tups b xs (I.base.tups b xs e), fun b o xs e => frzs b o xs (I.base.frzs b o xs e), fun b ps e => ?_⟩, ?_, fun x c e => ?_, ?_, fun x c e => ?_, fun p hp => ?_, hok, I.len⟩
  · exact keep b o (neL b o e) hb (neC b o e hx) (I.base.keep b o e n hb hx) (I.base.free b o e n hx)
  · obtain ⟨sl, e1⟩ := I.base.slot b o e n hb hx
    obtain ⟨sl', e2⟩ := slot b _ (neL b o e) hb (neC b o e hx) e1 (I.base.free b o e n hx)
    exact ⟨sl', e2⟩
  · obtain ⟨o', e1⟩ := I.base.there b o e hx
    exact free b o' (neC b o e hx) e1 (I.base.free b o e n hx)
  · obtain ⟨o', e1⟩ := I.base.there b o e hx
    exact there b o' (neC b o e hx) e1
  · obtain ⟨m1, e1⟩ := I.base.tbls b ps e
    obtain ⟨m2, e2⟩ := tbls b _ e1
    exact ⟨m1 ++ m2, by rw [e2, Array.append_assoc]⟩
  · obtain ⟨m, hn, hl⟩ := I.loc
    refine ⟨m, ns m hn, fun i x v e1 e2 e3 => ?_⟩
    obtain ⟨u, r, l⟩ := hl i x v e1 e2 e3
    refine ⟨u, r, ?_⟩
    rcases l with l | ⟨k, c, e, z⟩
    · exact .inl l
    · exact .inr ⟨k, c, e, cellK x c e _ z⟩
  · obtain ⟨v, z⟩ := I.cell x c e
    exact ⟨v, cellK x c e v z⟩
  · obtain ⟨m, ⟨o, _, _, ho, _⟩, _⟩ := I.loc
    exact free _ o (fun z => (hch _ z).2.1 rfl) ho I.free
  · obtain ⟨v, o, ho, hd⟩ := I.cell x c e
    exact free c o (fun z => (hch c z).2.2.1 x c e rfl) ho (I.freeC x c e)
  · obtain ⟨e, n, ne, nf, d⟩ := I.pin p hp
    have nch : p.1 ∉ ch := fun z => (hch p.1 z).2.2.2 p hp rfl
    exact ⟨keep p.1 p.2 ne nf nch e n, free p.1 p.2 nch e n, ne, nf, d⟩
/-- .. where the frame's own object is kept too -/
theorem Inv.un {t' : Nat} (I : Inv X pins σ H s) (u : Un X.fs [] H H' s.heap h') (hok : HOk X.prog X.w H' h') : Inv X pins σ H' { s with heap := h', toks := t' } := by
  obtain ⟨m, ⟨o, es, ep, ho, r⟩, _⟩ := id I.loc
  obtain ⟨sl, hL⟩ := u.any ho I.free (by simp)
  exact I.step (g' := s.gens) (d' := s.drawn) (ch := []) (fun _ z => nomatch z) (fun b o _ hb _ e n => u.keep b o e n hb (by simp)) (fun b o _ hb _ e n => u.slot b o e n hb (by simp)) (fun b o _ e n => u.free b o e n (by simp)) (fun b o _ e => u.there b o e (by simp)) u.tups u.frzs u.tbls (fun m' hm => by
    obtain ⟨o', es', ep', ho', r'⟩ := hm
    rw [ho] at ho'; cases ho'
    exact ⟨_, es', ep', hL, r'⟩) hok I.bare
/-- behind a call (or a comprehension's block): the slots of this frame may have changed too, the records at ch may have turned -/
theorem Inv.call {g' : Array GenState} {t' : Nat} {d' : Drawn} {ch : List Addr} (I : Inv X pins σ H s) (u : Un (frs X.stack) ch H H' s.heap h') (hok : HOk X.prog X.w H' h') (hg : AllBare g')
    (hch : ∀ b ∈ ch, (b ∈ X.ex ∨ X.s₀.heap.objs.size ≤ b) ∧ b ≠ X.env.locals ∧ (∀ x c, X.env.cells.lookup x = some c → c ≠ b) ∧ ∀ p ∈ X.pn ++ pins, p.1 ≠ b) :
    Inv X pins σ H' { s with heap := h', gens := g', drawn := d', toks := t' } := by
  obtain ⟨m, ⟨o, es, ep, ho, r⟩, _⟩ := id I.loc
  obtain ⟨sl, hL⟩ := u.any ho I.free fun z => (hch _ z).2.1 rfl
  exact I.step (ch := ch) hch (fun b o hL hb hc e n => u.keep b o e n (fun z => (List.mem_cons.mp (I.stkSub b z)).elim hL hb) hc) (fun b o _ _ hc e n => u.any e n hc) (fun b o hc e n => u.free b o e n hc) (fun b o hc e => u.there b o e hc) u.tups u.frzs u.tbls (fun m' hm => by
    obtain ⟨o', es', ep', ho', r'⟩ := hm
    rw [ho] at ho'; cases ho'
    exact ⟨_, es', ep', hL, r'⟩) hok hg
/-- an untracked record of ours (an iterator) has turned -/
theorem Inv.turned {t' : Nat} {it : Addr} (I : Inv X pins σ H s) (k : ∀ b o, b ≠ it → s.heap.get? b = some o → h'.get? b = some o) (hn : H it = none) (hL : it ≠ X.env.locals)
    (h1 : it ∈ X.ex ∨ X.s₀.heap.objs.size ≤ it) (h2 : ∀ x c, X.env.cells.lookup x = some c → c ≠ it) (h3 : ∀ p ∈ X.pn ++ pins, p.1 ≠ it) : Inv X pins σ H { s with heap := h', toks := t' } := by
  have nit : ∀ b u, H b = some u → b ≠ it := fun b u e z => by rw [z, hn] at e; cases e
  refine I.step (g' := s.gens) (d' := s.drawn) (ch := [it]) (fun b hb => ?_) (fun b o _ _ hc e _ => k b o (fun z => hc (by simp [z])) e) (fun b o _ _ hc e _ => ⟨o.slots, k b o (fun z => hc (by simp [z])) e⟩) (fun _ _ _ _ n => n)
    (fun b o hc e => ⟨o, k b o (fun z => hc (by simp [z])) e⟩) (fun _ _ e => e) (fun _ _ _ e => e) (fun b ps e => ⟨#[], by rw [e]; simp⟩) (fun m hm => ?_) (fun b u e => ?_) I.bare
  · have e : b = it := by simpa using hb
    subst e
    exact ⟨h1, hL, h2, h3⟩
  · obtain ⟨o, es, ep, ho, r⟩ := hm
    exact ⟨o, es, ep, k _ o (Ne.symm hL) ho, r⟩
  · refine (I.hok b u e).stay (fun c v hc q => k c v ?_ q) (fun _ q => q) fun _ _ q => q
    rcases hc with z | z
    · rw [z]; exact nit b u e
    · exact nit c _ z
theorem Inv.tok (I : Inv X pins σ H s) (t : Nat) : Inv X pins σ H { s with toks := t } := I.un (h' := s.heap) (t' := t) Un.refl I.hok
/-- all objects kept -/
theorem Inv.kept {t' : Nat} (I : Inv X pins σ H s) (k : ∀ b u, s.heap.get? b = some u → h'.get? b = some u) : Inv X pins σ H { s with heap := h', toks := t' } := I.un (Un.kept k) (I.hok.kept k)
/-- a new object laid and tracked -/
theorem Inv.laid {a : Addr} {o : HO} {t' : Nat} (I : Inv X pins σ H s) (k : ∀ b u, s.heap.get? b = some u → h'.get? b = some u) (hp : s.heap.objs.size ≤ a) (new : ObjOk X.prog X.w (upd H a o) h' a o) :
    Inv X pins σ (upd H a o) { s with heap := h', toks := t' } := I.un (Un.laid k hp (I.hok.fresh hp)) (I.hok.laid k hp new)
/-- an object written -/
theorem Inv.write {x e : Addr} {o : HO} {t' : Nat} (I : Inv X pins σ H s) (mu : Mut (H x)) (he : e = x ∨ H e = some (.own x)) (k : ∀ b u, b ≠ e → s.heap.get? b = some u → h'.get? b = some u) (heo : ∃ u, h'.get? e = some u)
    (new : ObjOk X.prog X.w (upd H x o) h' x o) : Inv X pins σ (upd H x o) { s with heap := h', toks := t' } := I.un (Un.write mu he k heo) (I.hok.write mu he k heo new)
/-- forgetting slots, pins -/
theorem Inv.weak {σ' : List (Option V)} (I : Inv X pins σ H s) (hl : σ'.length = σ.length) (w : ∀ (i : Nat) v, σ'[i]? = some (some v) → σ[i]? = some (some v)) : Inv X pins σ' H s :=
  ⟨I.ok, I.os, I.bare, I.base, let ⟨m, hn, hl'⟩ := I.loc; ⟨m, hn, fun i x v e1 e2 e3 => hl' i x v e1 (w i v e2) e3⟩, I.cell, I.free, I.freeC, I.pin, I.hok, hl.trans I.len⟩
theorem Inv.pins_of {pins' : List (Addr × Obj)} (I : Inv X pins σ H s) (h : ∀ p ∈ pins', s.heap.get? p.1 = some p.2 ∧ H p.1 = none ∧ p.1 ≠ X.env.locals ∧ p.1 ∉ X.fs ∧ ∀ v, p.2.data ≠ .cell v) : Inv X pins' σ H s :=
  ⟨I.ok, I.os, I.bare, I.base, I.loc, I.cell, I.free, I.freeC, fun p hp => (List.mem_append.mp hp).elim (fun z => I.pin p (List.mem_append_left _ z)) (h p), I.hok, I.len⟩

theorem nodup_ix {N : List Str} (hN : N.Nodup) {i j : Nat} {x : Str} (a : N[i]? = some x) (b : N[j]? = some x) : i = j := by
  obtain ⟨h1, e1⟩ := List.getElem?_eq_some_iff.mp a
  obtain ⟨h2, e2⟩ := List.getElem?_eq_some_iff.mp b
  exact (List.getElem_inj hN).mp (e1.trans e2.symm)

/-- a name is stored; what changed -/
theorem store_ok2 {M : Model} {A : Around} {E : Value → Shared → Prop} {i : Nat} {x : Str} {v : V} {u : Value} {Q : Unit → Shared → Prop} (I : Inv X pins σ H s) (hN : X.N.Nodup) (hi : X.N[i]? = some x) (hx : Loc X.env.scope x) (r : RelV v u)
    (h : ∀ s', Inv X pins (σ.set i (some v)) H s' → (∃ a, Heap.SameBut a s.heap s'.heap ∧ (a = X.env.locals ∨ X.env.cells.lookup x = some a)) → Q () s') (hf : X.fn x = true ∨ X.env.scope.names.lookup x = some .local := by first | exact .inl rfl | exact .inr rfl | assumption) : wpAny M A (storeName X.env x u) Q E s := by
  obtain ⟨m, hn, hl⟩ := id I.loc
  have hcls : (X.env.scope.kind == .class || (X.env.scope.kind == .module && X.env.locals != X.env.globals)) = false := by rw [I.ok.kind]; rfl
  have hiσ : i < σ.length := by rw [I.len]; exact (List.getElem?_eq_some_iff.mp hi).1
  have cne := I.cne
  have tracked : ∀ {a : Addr} {h' : Heap}, (∃ o, s.heap.get? a = some o ∧ H a = none) → Heap.SameBut a s.heap h' → HOk X.prog X.w H h' := fun {a h'} ha hs b ob e => by
    obtain ⟨_, _, hfree⟩ := ha
    refine (I.hok b ob e).stay (fun c w' hc q => (hs.2 c ?_).trans q) (fun _ q => q) fun _ _ q => q
    rintro rfl
    rcases hc with rfl | hc
    · rw [hfree] at e; cases e
    · rw [hfree] at hc; cases hc
  rcases hx with hk | hk
  · refine wpAny_storeName_local hk hn (fun h' hn' hs => ?_) hcls
    obtain ⟨oL, _, _, hoL, _⟩ := id hn
    refine h _ ⟨I.ok, I.os, I.bare, ⟨fun b o e n hb hx => ?_, fun b o e n hb hx => ?_, I.base.free, fun b o e hx => ?_, I.base.tups, I.base.frzs, I.base.tbls⟩, ⟨_, hn', fun j y v' e1 e2 e3 => ?_⟩, fun y c e => ?_, I.free, I.freeC, fun p hp => ?_, tracked ⟨oL, hoL, I.free⟩ hs, by simpa using I.len⟩ ⟨_, hs, .inl rfl⟩
    · exact (hs.2 b (Nat.ne_of_lt (Nat.lt_of_lt_of_le (Heap.lt_size e) I.ok.above))).trans (I.base.keep b o e n hb hx)
    · obtain ⟨sl, e1⟩ := I.base.slot b o e n hb hx
      exact ⟨sl, (hs.2 b (Nat.ne_of_lt (Nat.lt_of_lt_of_le (Heap.lt_size e) I.ok.above))).trans e1⟩
    · obtain ⟨o', e1⟩ := I.base.there b o e hx
      exact ⟨o', (hs.2 b (Nat.ne_of_lt (Nat.lt_of_lt_of_le (Heap.lt_size e) I.ok.above))).trans e1⟩
    · by_cases hj : j = i
      · subst hj
        rw [hi] at e1; cases e1
        rw [List.getElem?_set_self hiσ] at e2
        cases e2
        exact ⟨u, r, .inl ⟨hk, by simp⟩⟩
      · rw [List.getElem?_set_ne (Ne.symm hj)] at e2
        obtain ⟨u', r', q⟩ := hl j y v' e1 e2 e3
        refine ⟨u', r', ?_⟩
        rcases q with ⟨k, e⟩ | ⟨k, c, e, z⟩
        · refine .inl ⟨k, ?_⟩
          have : y ≠ x := fun e => hj (nodup_ix hN e1 (e ▸ hi))
          simp [this, e]
        · exact .inr ⟨k, c, e, z.sameBut hs (cne y c e)⟩
    · obtain ⟨w', z⟩ := I.cell y c e
      exact ⟨w', z.sameBut hs (cne y c e)⟩
    · obtain ⟨e, n, ne, nf, d⟩ := I.pin p hp
      exact ⟨(hs.2 p.1 ne).trans e, n, ne, nf, d⟩
  · have hfn : X.fn x = true := by
      rcases hf with z | z
      · exact z
      · rw [z] at hk; cases hk
    obtain ⟨c, hc⟩ := I.ok.has x (.inl hk)
    obtain ⟨w', z⟩ := I.cell x c hc
    refine wpAny_storeName_cell I.ok.kind hk hc z (fun h' hc' hs => ?_)
    obtain ⟨oc, hoc, hocd⟩ := id z
    refine h { s with heap := h' } ⟨I.ok, I.os, I.bare, ⟨fun b o e n hb hx => ?_, fun b o e n hb hx => ?_, I.base.free, fun b o e hx => ?_, I.base.tups, I.base.frzs, I.base.tbls⟩, ⟨m, hn.sameBut hs (Ne.symm (cne x c hc)), fun j y v' e1 e2 e3 => ?_⟩, fun y c' e => ?_, I.free, I.freeC, fun p hp => ?_, tracked ⟨oc, hoc, I.freeC x c hc⟩ hs, by simpa using I.len⟩ ⟨c, hs, .inr hc⟩
    · exact (hs.2 b (Nat.ne_of_lt (Nat.lt_of_lt_of_le (Heap.lt_size e) (I.ok.cab x c hfn hc)))).trans (I.base.keep b o e n hb hx)
    · obtain ⟨sl, e1⟩ := I.base.slot b o e n hb hx
      exact ⟨sl, (hs.2 b (Nat.ne_of_lt (Nat.lt_of_lt_of_le (Heap.lt_size e) (I.ok.cab x c hfn hc)))).trans e1⟩
    · obtain ⟨o', e1⟩ := I.base.there b o e hx
      exact ⟨o', (hs.2 b (Nat.ne_of_lt (Nat.lt_of_lt_of_le (Heap.lt_size e) (I.ok.cab x c hfn hc)))).trans e1⟩
    · by_cases hj : j = i
      · subst hj
        rw [hi] at e1; cases e1
        rw [List.getElem?_set_self hiσ] at e2
        cases e2
        exact ⟨u, r, .inr ⟨.inl hk, c, hc, hc'⟩⟩
      · rw [List.getElem?_set_ne (Ne.symm hj)] at e2
        obtain ⟨u', r', q⟩ := hl j y v' e1 e2 e3
        refine ⟨u', r', ?_⟩
        rcases q with q | ⟨k, c', e, z'⟩
        · exact .inl q
        · refine .inr ⟨k, c', e, z'.sameBut hs ?_⟩
          rintro rfl
          exact hj (nodup_ix hN e1 (I.ok.inj _ _ _ e hc ▸ hi))
    · by_cases hcc : c' = c
      · subst hcc; exact ⟨_, hc'⟩
      · obtain ⟨w2, z2⟩ := I.cell y c' e
        exact ⟨w2, z2.sameBut hs hcc⟩
    · obtain ⟨e, n, ne, nf, d⟩ := I.pin p hp
      refine ⟨(hs.2 p.1 ?_).trans e, n, ne, nf, d⟩
      intro q
      rw [q, hoc] at e
      have q' : oc = p.2 := Option.some.inj e
      exact d w' (by rw [← q']; exact hocd)
theorem store_ok {M : Model} {A : Around} {E : Value → Shared → Prop} {i : Nat} {x : Str} {v : V} {u : Value} {Q : Unit → Shared → Prop} (I : Inv X pins σ H s) (hN : X.N.Nodup) (hi : X.N[i]? = some x) (hx : Loc X.env.scope x) (r : RelV v u)
    (h : ∀ s', Inv X pins (σ.set i (some v)) H s' → Q () s') (hf : X.fn x = true ∨ X.env.scope.names.lookup x = some .local := by first | exact .inl rfl | exact .inr rfl | assumption) : wpAny M A (storeName X.env x u) Q E s :=
  store_ok2 I hN hi hx r (fun s' I' _ => h s' I') hf
/-- behind a call or a block, the state as it is -/
theorem Inv.call' {s' : Shared} {ch : List Addr} (I : Inv X pins σ H s) (ho : s'.os = s.os) (u : Un (frs X.stack) ch H H' s.heap s'.heap) (hok : HOk X.prog X.w H' s'.heap) (hg : AllBare s'.gens)
    (hch : ∀ b ∈ ch, (b ∈ X.ex ∨ X.s₀.heap.objs.size ≤ b) ∧ b ≠ X.env.locals ∧ (∀ x c, X.env.cells.lookup x = some c → c ≠ b) ∧ ∀ p ∈ X.pn ++ pins, p.1 ≠ b) : Inv X pins σ H' s' := by
  obtain ⟨h', g', d', t', o'⟩ := s'
  have e : o' = s.os := ho
  subst e
  exact I.call (g' := g') (t' := t') (d' := d') u hok hg hch
end

/-! ### the judgements -/
/-- an exception: its class, its own dict's address (where it has one), the abstract heap behind it -/
abbrev XK := Value → Option Addr → Hp → Prop
abbrev St := List (Option V)
abbrev VK := V → Hp → Prop
/-- an expression's reading; a test's; an argument list's -/
abbrev TE := St → Hp → VK → Prop
abbrev TT := St → Hp → (Bool → Hp → Prop) → Prop
abbrev TA := St → Hp → (List V → Hp → Prop) → Prop
/-- what is wanted behind a statement -/
structure Ends where
  nx : St → Hp → Prop
  rt : VK
  bk : St → Hp → Prop := fun _ _ => False
  ct : St → Hp → Prop := fun _ _ => False
abbrev TS := Ends → St → Hp → Prop

def EP (X : Cx) (pins : List (Addr × Obj)) (σ : St) (Q : VK) (u : Value) (s' : Shared) : Prop := ∃ v H', Inv X pins σ H' s' ∧ RelV v u ∧ Q v H'
def TP (X : Cx) (pins : List (Addr × Obj)) (σ : St) (Q : Bool → Hp → Prop) (b : Bool) (s' : Shared) : Prop := ∃ H', Inv X pins σ H' s' ∧ Q b H'
def AP (X : Cx) (pins : List (Addr × Obj)) (σ : St) (Q : List V → Hp → Prop) (us : List Value) (s' : Shared) : Prop := ∃ vs H', Inv X pins σ H' s' ∧ Vals vs us ∧ Q vs H'
def SP (X : Cx) (pins : List (Addr × Obj)) (D : Ends) (f : Flow) (s' : Shared) : Prop :=
  match f with
  | .next => ∃ σ' H', Inv X pins σ' H' s' ∧ D.nx σ' H'
  | .brk => ∃ σ' H', Inv X pins σ' H' s' ∧ D.bk σ' H'
  | .cont => ∃ σ' H', Inv X pins σ' H' s' ∧ D.ct σ' H'
  | .ret u => ∃ v σ' H', Inv X pins σ' H' s' ∧ RelV v u ∧ D.rt v H'

def PE (X : Cx) (e : Expr) (t : TE) : Prop :=
  ∀ (pins : List (Addr × Obj)) (s : Shared) (σ : St) (H : Hp) (Q : VK), Inv X pins σ H s → t σ H Q → wpAny (model X.prog X.w) X.A (eval e X.env) (EP X pins σ Q) X.xe s
def PT (X : Cx) (e : Expr) (t : TT) : Prop :=
  ∀ (pins : List (Addr × Obj)) (s : Shared) (σ : St) (H : Hp) (Q : Bool → Hp → Prop), Inv X pins σ H s → t σ H Q → wpAny (model X.prog X.w) X.A (isTrue e X.env (eval e X.env)) (TP X pins σ Q) X.xe s
/-- a test whatever its 'whole' is (and, or) -/
def PW (X : Cx) (e : Expr) (t : TT) : Prop :=
  ∀ (whole : Sem Value) (pins : List (Addr × Obj)) (s : Shared) (σ : St) (H : Hp) (Q : Bool → Hp → Prop), Inv X pins σ H s → t σ H Q → wpAny (model X.prog X.w) X.A (isTrue e X.env whole) (TP X pins σ Q) X.xe s
theorem PW.pt {X : Cx} {e : Expr} {t : TT} (h : PW X e t) : PT X e t := h _
/-- an argument list (no star), from the left -/
def PA (X : Cx) (es : List Expr) (t : TA) : Prop :=
  ∀ (pos : Pos) (pins : List (Addr × Obj)) (s : Shared) (σ : St) (H : Hp) (Q : List V → Hp → Prop), Inv X pins σ H s → t σ H Q → wpAny (model X.prog X.w) X.A (spliced (backTo pos (starEach es X.env))) (AP X pins σ Q) X.xe s
def PS (X : Cx) (st : Stmt) (t : TS) : Prop :=
  ∀ (pins : List (Addr × Obj)) (s : Shared) (σ : St) (H : Hp) (D : Ends), Inv X pins σ H s → t D σ H → wpAny (model X.prog X.w) X.A (exec st X.env) (SP X pins D) X.xe s
def PSs (X : Cx) (st : List Stmt) (t : TS) : Prop :=
  ∀ (pins : List (Addr × Obj)) (s : Shared) (σ : St) (H : Hp) (D : Ends), Inv X pins σ H s → t D σ H → wpAny (model X.prog X.w) X.A (execs st X.env) (SP X pins D) X.xe s
/-- weaken the end -/
theorem thn {α : Type} {t : Sem α} {Q Q' : α → Shared → Prop} {M : Model} {A : Around} {E : Value → Shared → Prop} {s : Shared} (h : wpAny M A t Q E s) (hQ : ∀ a s, Q a s → Q' a s) : wpAny M A t Q' E s := wpAny_mono h hQ fun _ _ x => x
end L2

namespace L2
open PySem PySem.Spec PyProof.Rows
section
variable {X : Cx}

/-- two expressions in a row -/
theorem bin {a b : Expr} {ta tb : TE} (ha : PE X a ta) (hb : PE X b tb) {pins : List (Addr × Obj)} {s : Shared} {σ : St} {H : Hp} {R : V → V → Hp → Prop} (I : Inv X pins σ H s) (h : ta σ H fun x H1 => tb σ H1 fun y H2 => R x y H2)
    {α : Type} {Q : α → Shared → Prop} {f : Value → Value → Sem α}
    (hf : ∀ v u s2 x y H2, Inv X pins σ H2 s2 → RelV x v → RelV y u → R x y H2 → wpAny (model X.prog X.w) X.A (f v u) Q X.xe s2) :
    wpAny (model X.prog X.w) X.A (eval a X.env) (fun v s₁ => wpAny (model X.prog X.w) X.A (eval b X.env) (fun u s₂ => wpAny (model X.prog X.w) X.A (f v u) Q X.xe s₂) X.xe s₁) X.xe s := by
  refine thn (ha pins s σ H _ I h) fun v s1 ⟨x, H1, I1, r1, q1⟩ => ?_
  refine thn (hb pins s1 σ H1 _ I1 q1) fun u s2 ⟨y, H2, I2, r2, q2⟩ => ?_
  exact hf v u s2 x y H2 I2 r1 r2 q2

/-! ### names and constants -/
def tVar (i : Nat) : TE := fun σ H Q => ∃ v, σ[i]? = some (some v) ∧ Q v H
def tC (v : V) : TE := fun _ H Q => Q v H
theorem pe_var {i : Nat} {x : Str} {pos : Pos} (hN : X.N[i]? = some x) (hv : Vis X.env.scope x) (hd : (x == ("__debug__" : Str)) = false := by decide) (hcd : (x == ("__classdict__" : Str)) = false := by decide) : PE X (.Name x pos) (tVar i) := by
  intro pins s σ H Q I h
  obtain ⟨v, e, h⟩ := h
  obtain ⟨m, hn, hl⟩ := I.loc
  obtain ⟨u, r, l⟩ := hl i x v hN e hv
  have fin : EP X pins σ Q u s := ⟨v, H, I, r, h⟩
  rcases l with ⟨hk, hm⟩ | ⟨hk, c, hc, hcell⟩
  · exact wpAny_Name (wpAny_loadName_local I.ok.kind hk hn hm fin) hd
  · rcases hk with hk | hk
    · exact wpAny_Name (wpAny_loadName_cell I.ok.kind hk hc hcell fin) hd
    · exact wpAny_Name (wpAny_loadName_free I.ok.kind hk hc hcell fin hcd) hd
theorem pe_int {i j pos} : PE X (.Constant (.int i) j pos) (tC (.int i)) := fun _ _ _ H _ I h => wpAny_Constant_int ⟨.int i, H, I.tok _, ⟨_, rfl⟩, h⟩
theorem pe_bl {b j pos} : PE X (.Constant (.bool b) j pos) (tC (.bl b)) := fun _ _ _ H _ I h => Constant_bool ⟨.bl b, H, I, rfl, h⟩
theorem pe_non {j pos} : PE X (.Constant .none j pos) (tC .non) := fun _ _ _ H _ I h => Constant_none ⟨.non, H, I, rfl, h⟩
theorem pe_str {x j pos} : PE X (.Constant (.str x) j pos) (tC (.str x)) := fun _ _ _ H _ I h => Calls.Constant_str ⟨.str x, H, I.tok _, ⟨_, rfl⟩, h⟩

/-- a global name of the def -/
def Gl (X : Cx) (x : Str) : Prop := X.env.kindOf x = some .globalImplicit
theorem ld_glob {E : Value → Shared → Prop} {pins : List (Addr × Obj)} {s : Shared} {σ : St} {H : Hp} {x : Str} {u : Value} {pos : Pos} {Q : Value → Shared → Prop} (I : Inv X pins σ H s) (hg : Gl X x) (hm : X.mg x = some u) (h : Q u s)
    (hd : (x == ("__debug__" : Str)) = false := by decide) : wpAny (model X.prog X.w) X.A (eval (.Name x pos) X.env) Q E s :=
  Calls.Name_function_global I.ok.kind hg (Calls.loadGlobal_global (by rw [I.ok.glob]; exact I.mod.glob.keeps I.bk) hm h) hd
theorem ld_blt {E : Value → Shared → Prop} {pins : List (Addr × Obj)} {s : Shared} {σ : St} {H : Hp} {x : Str} {u : Value} {pos : Pos} {Q : Value → Shared → Prop} (I : Inv X pins σ H s) (hg : Gl X x) (hm : X.mg x = none) (hv : bootBuiltins x = some u) (h : Q u s)
    (hn : x ≠ "__name__" := by decide) (hd : (x == ("__debug__" : Str)) = false := by decide) : wpAny (model X.prog X.w) X.A (eval (.Name x pos) X.env) Q E s := by
  obtain ⟨mb, h1, h2⟩ := I.mod.blt
  exact Calls.Name_function_global I.ok.kind hg (Calls.loadGlobal_builtin (by rw [I.ok.glob]; exact I.mod.glob.keeps I.bk) hm (by rw [I.ok.blt]; exact h1.keeps I.bk) ((h2 x hn).trans hv) h) hd
/-- a module's constant, a class, a function, as a value -/
theorem pe_glob {x : Str} {v : V} {u : Value} {pos : Pos} (hg : Gl X x) (hm : X.mg x = some u) (r : RelV v u) (hd : (x == ("__debug__" : Str)) = false := by decide) : PE X (.Name x pos) (tC v) :=
  fun _ _ _ H _ I h => ld_glob I hg hm ⟨v, H, I, r, h⟩ hd
theorem pe_bltn {x : Str} {v : V} {u : Value} {pos : Pos} (hg : Gl X x) (hm : X.mg x = none) (hv : bootBuiltins x = some u) (r : RelV v u) (hn : x ≠ "__name__" := by decide) (hd : (x == ("__debug__" : Str)) = false := by decide) : PE X (.Name x pos) (tC v) :=
  fun _ _ _ H _ I h => ld_blt I hg hm hv ⟨v, H, I, r, h⟩ hn hd

/-! ### arithmetic -/
/-- two ints -/
def t2I (ta tb : TE) (k : Int → Int → Hp → Prop) : St → Hp → Prop := fun σ H => ta σ H fun x H1 => tb σ H1 fun y H2 => ∃ i j, x = .int i ∧ y = .int j ∧ k i j H2
def tAdd (ta tb : TE) : TE := fun σ H Q => t2I ta tb (fun i j H2 => Q (.int (i + j)) H2) σ H
def tSub (ta tb : TE) : TE := fun σ H Q => t2I ta tb (fun i j H2 => Q (.int (i - j)) H2) σ H
/-- the left factor below 2^64 -/
def tMul (ta tb : TE) : TE := fun σ H Q => t2I ta tb (fun i j H2 => (-(2 ^ 64) < i ∧ i < 2 ^ 64) ∧ Q (.int (i * j)) H2) σ H
variable {a b : Expr} {ta tb : TE} {pos : Pos}
theorem pe_add (ha : PE X a ta) (hb : PE X b tb) : PE X (.BinOp a .Add b pos) (tAdd ta tb) := by
  intro pins s σ H Q I h
  refine wpAny_BinOp (bin ha hb I h fun v u s2 x y H2 I2 rx ry q => ?_)
  obtain ⟨i, j, rfl, rfl, q⟩ := q
  obtain ⟨t, rfl⟩ := rx
  obtain ⟨t', rfl⟩ := ry
  exact add_int ⟨.int _, H2, I2.tok _, ⟨_, rfl⟩, q⟩
theorem pe_sub (ha : PE X a ta) (hb : PE X b tb) : PE X (.BinOp a .Sub b pos) (tSub ta tb) := by
  intro pins s σ H Q I h
  refine wpAny_BinOp (bin ha hb I h fun v u s2 x y H2 I2 rx ry q => ?_)
  obtain ⟨i, j, rfl, rfl, q⟩ := q
  obtain ⟨t, rfl⟩ := rx
  obtain ⟨t', rfl⟩ := ry
  exact sub_int ⟨.int _, H2, I2.tok _, ⟨_, rfl⟩, q⟩
theorem pe_mul (ha : PE X a ta) (hb : PE X b tb) : PE X (.BinOp a .Mult b pos) (tMul ta tb) := by
  intro pins s σ H Q I h
  refine wpAny_BinOp (bin ha hb I h fun v u s2 x y H2 I2 rx ry q => ?_)
  obtain ⟨i, j, rfl, rfl, ⟨q1, q2⟩, q⟩ := q
  obtain ⟨t, rfl⟩ := rx
  obtain ⟨t', rfl⟩ := ry
  exact mul_int ⟨.int _, H2, I2.tok _, ⟨_, rfl⟩, q⟩ (.of_left (intBits_le_64 q1 q2))

/-! ### comparisons -/
def PC (X : Cx) (op : CmpOp) (a b : Expr) (t : TE) : Prop :=
  ∀ (pins : List (Addr × Obj)) (s : Shared) (σ : St) (H : Hp) (Q : VK), Inv X pins σ H s → t σ H Q →
    wpAny (model X.prog X.w) X.A (eval a X.env) (fun v s₁ => wpAny (model X.prog X.w) X.A (eval b X.env) (fun u s₂ => wpAny (model X.prog X.w) X.A (compareOp op v u) (EP X pins σ Q) X.xe s₂) X.xe s₁) X.xe s
theorem nobehind (b : Expr) {op : CmpOp} (h : op ≠ .In) (h2 : op ≠ .NotIn) : behindInMarks op b = false := by
  have e1 : (op == CmpOp.In) = false := by cases op <;> first | rfl | exact absurd rfl h
  have e2 : (op == CmpOp.NotIn) = false := by cases op <;> first | rfl | exact absurd rfl h2
  cases b <;> simp [behindInMarks, e1, e2]
def tCmp (p : Int → Int → Bool) (ta tb : TE) : TE := fun σ H Q => t2I ta tb (fun i j H2 => Q (.bl (p i j)) H2) σ H
abbrev tLt : TE → TE → TE := tCmp fun i j => decide (i < j)
abbrev tLe : TE → TE → TE := tCmp fun i j => decide (i ≤ j)
abbrev tGt : TE → TE → TE := tCmp fun i j => decide (j < i)
abbrev tGe : TE → TE → TE := tCmp fun i j => decide (j ≤ i)
abbrev tEqI : TE → TE → TE := tCmp fun i j => decide (i = j)
abbrev tNeI : TE → TE → TE := tCmp fun i j => !decide (i = j)
/-- a comparison of two ints, by its rule -/
theorem pc_int {op : CmpOp} {p : Int → Int → Bool} (ha : PE X a ta) (hb : PE X b tb)
    (rule : ∀ (i j : Int) (t u : Tok) (Q : Value → Shared → Prop) (s : Shared), Q (.bool (p i j)) s → wpAny (model X.prog X.w) X.A (compareOp op (.int i t) (.int j u)) Q X.xe s) : PC X op a b (tCmp p ta tb) := by
  intro pins s σ H Q I h
  refine bin ha hb I h fun v u s2 x y H2 I2 rx ry q => ?_
  obtain ⟨i, j, rfl, rfl, q⟩ := q
  obtain ⟨t, rfl⟩ := rx
  obtain ⟨t', rfl⟩ := ry
  exact rule i j t t' _ s2 ⟨.bl _, H2, I2, rfl, q⟩
theorem pc_lt (ha : PE X a ta) (hb : PE X b tb) : PC X .Lt a b (tLt ta tb) := pc_int ha hb fun _ _ _ _ _ _ h => lt_int h
theorem pc_le (ha : PE X a ta) (hb : PE X b tb) : PC X .LtE a b (tLe ta tb) := pc_int ha hb fun _ _ _ _ _ _ h => le_int h
theorem pc_gt (ha : PE X a ta) (hb : PE X b tb) : PC X .Gt a b (tGt ta tb) := pc_int ha hb fun _ _ _ _ _ _ h => gt_int h
theorem pc_ge (ha : PE X a ta) (hb : PE X b tb) : PC X .GtE a b (tGe ta tb) := pc_int ha hb fun _ _ _ _ _ _ h => ge_int h
theorem pc_eqI (ha : PE X a ta) (hb : PE X b tb) : PC X .Eq a b (tEqI ta tb) := pc_int ha hb fun _ _ _ _ _ _ h => eq_int (by rw [Bool.beq_eq_decide_eq]; exact h)
theorem pc_neI (ha : PE X a ta) (hb : PE X b tb) : PC X .NotEq a b (tNeI ta tb) := pc_int ha hb fun _ _ _ _ _ _ h => ne_int (by rw [bne, Bool.beq_eq_decide_eq]; exact h)
/-- is None -/
def tIsN (ta : TE) : TE := fun σ H Q => ta σ H fun x H1 => Q (.bl (decide (x = .non))) H1
def tNotN (ta : TE) : TE := fun σ H Q => ta σ H fun x H1 => Q (.bl (!decide (x = .non))) H1
theorem RelV.none_iff {x : V} {v : Value} (r : RelV x v) : (v == Value.none) = decide (x = .non) := by
  cases x with
  | non => cases r; rfl
  | bl _ => cases r; rfl
  | int _ => obtain ⟨t, rfl⟩ := r; rfl
  | str _ => obtain ⟨t, rfl⟩ := r; rfl
  | byt _ => obtain ⟨t, rfl⟩ := r; rfl
  | flt _ => obtain ⟨t, rfl⟩ := r; rfl
  | ref _ => cases r; rfl
  | ty _ => cases r; rfl
theorem pc_isN {j pos'} (ha : PE X a ta) : PC X .Is a (.Constant .none j pos') (tIsN ta) := by
  intro pins s σ H Q I h
  refine thn (ha pins s σ H _ I h) fun v s1 ⟨x, H1, I1, r1, q1⟩ => ?_
  exact Constant_none (is_none_gen ⟨.bl _, H1, I1, by rw [r1.none_iff]; rfl, q1⟩)
theorem pc_notN {j pos'} (ha : PE X a ta) : PC X .IsNot a (.Constant .none j pos') (tNotN ta) := by
  intro pins s σ H Q I h
  refine thn (ha pins s σ H _ I h) fun v s1 ⟨x, H1, I1, r1, q1⟩ => ?_
  exact Constant_none (isnot_none_gen ⟨.bl _, H1, I1, by rw [r1.none_iff]; rfl, q1⟩)
/-- a comparison as a value, as a test -/
def tB (t : TE) : TT := fun σ H Q => t σ H fun x H1 => ∃ c, x = .bl c ∧ Q c H1
theorem pe_cmp {op : CmpOp} {t : TE} (h : PC X op a b t) (h1 : behindInMarks op b = false := by first | exact nobehind _ (by decide) (by decide) | rfl) : PE X (.Compare a [op] [b] pos) t := fun pins s σ H Q I hw => wpAny_Compare1 (h pins s σ H Q I hw) h1
theorem pt_cmp {op : CmpOp} {t : TE} (h : PC X op a b t) (h1 : behindInMarks op b = false := by first | exact nobehind _ (by decide) (by decide) | rfl) : PT X (.Compare a [op] [b] pos) (tB t) := by
  intro pins s σ H Q I hw
  refine wpAny_isTrue_Compare1 (thn (h pins s σ H _ I hw) fun v s1 h1 => thn h1 fun u s2 h2 => thn h2 fun c s3 ⟨x, H1, I1, r1, q1⟩ => ?_) h1
  obtain ⟨d, rfl, q⟩ := q1
  cases r1
  exact wpAny_truthy_bool ⟨H1, I1, q⟩
/-- an expression whose value is a bool, as a test -/
theorem pt_val {e : Expr} {t : TE} (h : PE X e t) (he : ∀ whole, isTrue e X.env whole = (do let v ← whole; standAt e.pos; holding [v] (truthy v)) := by intro _; rfl) : PT X e (tB t) := by
  intro pins s σ H Q I hw
  refine isTrue_plain (thn (h pins s σ H _ I hw) fun v s1 ⟨x, H1, I1, r1, q1⟩ => ?_) (he _)
  obtain ⟨d, rfl, q⟩ := q1
  cases r1
  exact wpAny_truthy_bool ⟨H1, I1, q⟩

/-! ### and, or, not -/
variable {tA tB' : TT} {rest : List Expr}
def tAnd (t u : TT) : TT := fun σ H Q => t σ H fun c H1 => if c = true then u σ H1 Q else Q false H1
def tOr (t u : TT) : TT := fun σ H Q => t σ H fun c H1 => if c = true then Q true H1 else u σ H1 Q
def tNot (t : TT) : TT := fun σ H Q => t σ H fun c H1 => Q (!c) H1
theorem pw_and1 (ha : PT X a tA) : PW X (.BoolOp .And [a] pos) tA := by
  intro wh pins s σ H Q I h
  refine isTrue_and (thn (ha pins s σ H Q I h) fun c s1 e => ?_)
  cases c with
  | true => exact isTrue_and_nil e
  | false => exact e
theorem pw_or1 (ha : PT X a tA) : PW X (.BoolOp .Or [a] pos) tA := by
  intro wh pins s σ H Q I h
  refine isTrue_or (thn (ha pins s σ H Q I h) fun c s1 e => ?_)
  cases c with
  | false => exact isTrue_or_nil e
  | true => exact e
theorem pw_and (ha : PT X a tA) (hb : PW X (.BoolOp .And (b :: rest) pos) tB') : PW X (.BoolOp .And (a :: b :: rest) pos) (tAnd tA tB') := by
  intro wh pins s σ H Q I h
  refine isTrue_and (thn (ha pins s σ H _ I h) fun c s1 ⟨H1, I1, q1⟩ => ?_)
  cases c with
  | true => exact hb wh pins s1 σ H1 Q I1 q1
  | false => exact ⟨H1, I1, q1⟩
theorem pw_or (ha : PT X a tA) (hb : PW X (.BoolOp .Or (b :: rest) pos) tB') : PW X (.BoolOp .Or (a :: b :: rest) pos) (tOr tA tB') := by
  intro wh pins s σ H Q I h
  refine isTrue_or (thn (ha pins s σ H _ I h) fun c s1 ⟨H1, I1, q1⟩ => ?_)
  cases c with
  | true => exact ⟨H1, I1, q1⟩
  | false => exact hb wh pins s1 σ H1 Q I1 q1
theorem pt_not (ha : PT X a tA) : PT X (.UnaryOp .Not a pos) (tNot tA) := by
  intro pins s σ H Q I h
  exact isTrue_not (ha pins s σ H (fun c H1 => Q (!c) H1) I h)
/-- .. as values (bools) -/
def tAndV (ta tb : TE) : TE := fun σ H Q => ta σ H fun x H1 => ∃ c, x = .bl c ∧ if c = true then tb σ H1 Q else Q (.bl false) H1
def tOrV (ta tb : TE) : TE := fun σ H Q => ta σ H fun x H1 => ∃ c, x = .bl c ∧ if c = true then Q (.bl true) H1 else tb σ H1 Q
def tNotV (ta : TE) : TE := fun σ H Q => ta σ H fun x H1 => ∃ c, x = .bl c ∧ Q (.bl (!c)) H1
theorem pe_one {op} {t : TE} (h : PE X a t) : PE X (.BoolOp op [a] pos) t := fun pins s σ H Q I hw => BoolOp_one (h pins s σ H Q I hw)
theorem pe_and (ha : PE X a ta) (hb : PE X (.BoolOp .And (b :: rest) pos) tb) : PE X (.BoolOp .And (a :: b :: rest) pos) (tAndV ta tb) := by
  intro pins s σ H Q I h
  refine BoolOp_and (thn (ha pins s σ H _ I h) fun v s1 ⟨x, H1, I1, r1, q1⟩ => ?_)
  obtain ⟨c, rfl, q1⟩ := q1
  cases r1
  refine wpAny_truthy_bool ?_
  cases c with
  | true => exact hb pins s1 σ H1 Q I1 q1
  | false => exact ⟨.bl false, H1, I1, rfl, q1⟩
theorem pe_or (ha : PE X a ta) (hb : PE X (.BoolOp .Or (b :: rest) pos) tb) : PE X (.BoolOp .Or (a :: b :: rest) pos) (tOrV ta tb) := by
  intro pins s σ H Q I h
  refine BoolOp_or (thn (ha pins s σ H _ I h) fun v s1 ⟨x, H1, I1, r1, q1⟩ => ?_)
  obtain ⟨c, rfl, q1⟩ := q1
  cases r1
  refine wpAny_truthy_bool ?_
  cases c with
  | false => exact hb pins s1 σ H1 Q I1 q1
  | true => exact ⟨.bl true, H1, I1, rfl, q1⟩
theorem pe_not (ha : PE X a ta) : PE X (.UnaryOp .Not a pos) (tNotV ta) := by
  intro pins s σ H Q I h
  refine UnaryOp_ (thn (ha pins s σ H _ I h) fun v s1 ⟨x, H1, I1, r1, q1⟩ => ?_)
  obtain ⟨c, rfl, q1⟩ := q1
  cases r1
  exact not_of (wpAny_truthy_bool ⟨.bl (!c), H1, I1, rfl, q1⟩)
/-- a if t else b -/
def tIf (t : TT) (ta tb : TE) : TE := fun σ H Q => t σ H fun c H1 => if c = true then ta σ H1 Q else tb σ H1 Q
theorem pe_ifExp {c : Expr} (hc : PT X c tA) (ha : PE X a ta) (hb : PE X b tb) : PE X (.IfExp c a b pos) (tIf tA ta tb) := by
  intro pins s σ H Q I h
  refine wpAny_IfExp (thn (hc pins s σ H _ I h) fun d s1 ⟨H1, I1, q1⟩ => ?_)
  cases d with
  | true => exact ha pins s1 σ H1 Q I1 q1
  | false => exact hb pins s1 σ H1 Q I1 q1
end
end L2

namespace L2
open PySem PySem.Spec PyProof.Rows

/-! ### a list, a tuple that is read: tracked, frozen, or an object of the module -/
def SqL (K : PySem.W.Frag) (H : Hp) (a : Addr) (xs : List V) : Prop :=
  Rd H a (.lst xs) ∨
    ∃ (o : Obj) (its : Array Value) (n : Nat), K.lookup a = some o ∧ o.cls = .type "list" ∧ o.dict = none ∧ o.data = .seq its n ∧ its.size ≤ sizeLine ∧ Vals xs its.toList
def SqT (K : PySem.W.Frag) (H : Hp) (a : Addr) (xs : List V) : Prop :=
  Rd H a (.tup xs) ∨
    ∃ (o : Obj) (its : Array Value) (n : Nat), K.lookup a = some o ∧ o.cls = .type "tuple" ∧ o.data = .seq its n ∧ its.size ≤ sizeLine ∧ Vals xs its.toList
def absV : Value → Option V
  | .none => some .non
  | .bool b => some (.bl b)
  | .int i _ => some (.int i)
  | .str x _ => some (.str x)
  | .bytes b _ => some (.byt b)
  | .float b _ => some (.flt b)
  | .ref a => some (.ref a)
  | .type n => some (.ty n)
  | _ => none
theorem RelV.abs {x : V} {u : Value} (r : RelV x u) : absV u = some x := by
  cases x with
  | non => cases r; rfl
  | bl _ => cases r; rfl
  | int _ => obtain ⟨t, rfl⟩ := r; rfl
  | str _ => obtain ⟨t, rfl⟩ := r; rfl
  | byt _ => obtain ⟨t, rfl⟩ := r; rfl
  | flt _ => obtain ⟨t, rfl⟩ := r; rfl
  | ref _ => cases r; rfl
  | ty _ => cases r; rfl
theorem RelV.inj {x y : V} {u : Value} (r : RelV x u) (q : RelV y u) : x = y := Option.some.inj (r.abs.symm.trans q.abs)
theorem Vals.inj : ∀ {xs ys : List V} {us : List Value}, Vals xs us → Vals ys us → xs = ys
  | _, _, _, .nil, .nil => rfl
  | _, _, _, .cons r t, .cons r' t' => by rw [r.inj r', Vals.inj t t']
section
variable {X : Cx} {pins : List (Addr × Obj)} {σ : St} {H : Hp} {s : Shared} {a : Addr} {xs ys : List V}
theorem SqL.of {K : PySem.W.Frag} (h : H a = some (.lst xs)) : SqL K H a xs := .inl (.inl h)
theorem SqT.of {K : PySem.W.Frag} (h : H a = some (.tup xs)) : SqT K H a xs := .inl (.inl h)
theorem Inv.list (I : Inv X pins σ H s) (h : SqL X.K H a xs) : ∃ its : List Value, Vals xs its ∧ PlainL s.heap a its.toArray ∧ xs.length ≤ sizeLine := by
  rcases h with h | ⟨o, its, n, hk, hc, hd, hs, hz, r⟩
  · obtain ⟨z, its, n, r, e⟩ := h.ok I.hok
    exact ⟨its, r, ⟨_, n, e, rfl, rfl, rfl⟩, z⟩
  · refine ⟨its.toList, r, ⟨o, n, I.kIn a o hk, hc, hd, by simpa using hs⟩, ?_⟩
    have e := r.length
    simp only [Array.length_toList] at e
    omega
theorem Inv.tuple (I : Inv X pins σ H s) (h : SqT X.K H a xs) : ∃ its : List Value, Vals xs its ∧ IsTup s.heap a its.toArray ∧ xs.length ≤ sizeLine := by
  rcases h with h | ⟨o, its, n, hk, hc, hs, hz, r⟩
  · obtain ⟨z, its, r, p⟩ := h.ok I.hok
    exact ⟨its, r, p, z⟩
  · refine ⟨its.toList, r, ⟨o, I.kIn a o hk, hc, n, by simpa using hs⟩, ?_⟩
    have e := r.length
    simp only [Array.length_toList] at e
    omega
theorem Inv.list_inj (I : Inv X pins σ H s) (h : SqL X.K H a xs) (h' : SqL X.K H a ys) : xs = ys := by
  obtain ⟨its, r, ⟨o, n, e, _, _, d⟩, _⟩ := I.list h
  obtain ⟨its', r', ⟨o', n', e', _, _, d'⟩, _⟩ := I.list h'
  rw [e] at e'; cases e'
  rw [d] at d'
  injection d' with d1 _
  have : its = its' := by simpa using congrArg Array.toList d1
  subst this
  exact r.inj r'
theorem Inv.tuple_inj (I : Inv X pins σ H s) (h : SqT X.K H a xs) (h' : SqT X.K H a ys) : xs = ys := by
  obtain ⟨its, r, ⟨o, e, _, n, d⟩, _⟩ := I.tuple h
  obtain ⟨its', r', ⟨o', e', _, n', d'⟩, _⟩ := I.tuple h'
  rw [e] at e'; cases e'
  rw [d] at d'
  injection d' with d1 _
  have : its = its' := by simpa using congrArg Array.toList d1
  subst this
  exact r.inj r'
end

/-! ### another wish about exceptions -/
abbrev Cx.wish (X : Cx) (E : Value → Shared → Prop) : Cx := { X with xe := E }
/-- no exception leaves -/
abbrev Cx.nox (X : Cx) : Cx := X.wish fun _ _ => False
theorem Cx.Ok.wish {X : Cx} (ok : X.Ok) (E : Value → Shared → Prop) : (X.wish E).Ok :=
  ⟨ok.mod, ok.kind, ok.glob, ok.blt, ok.above, ok.inj, ok.has, ok.cab, ok.hd, ok.frames, ok.stk, ok.exf, ok.bs, ok.bsz, ok.noex, ok.exfs, ok.funs, ok.frf⟩
theorem Cx.Ok.unwish {X : Cx} {E : Value → Shared → Prop} (ok : (X.wish E).Ok) : X.Ok :=
  ⟨ok.mod, ok.kind, ok.glob, ok.blt, ok.above, ok.inj, ok.has, ok.cab, ok.hd, ok.frames, ok.stk, ok.exf, ok.bs, ok.bsz, ok.noex, ok.exfs, ok.funs, ok.frf⟩
section
variable {X : Cx} {pins : List (Addr × Obj)} {σ : St} {H : Hp} {s : Shared} {E : Value → Shared → Prop}
theorem Inv.wish (I : Inv X pins σ H s) (E : Value → Shared → Prop) : Inv (X.wish E) pins σ H s := ⟨I.ok.wish E, I.os, I.bare, I.base, I.loc, I.cell, I.free, I.freeC, I.pin, I.hok, I.len⟩
theorem Inv.unwish (I : Inv (X.wish E) pins σ H s) : Inv X pins σ H s := ⟨I.ok.unwish, I.os, I.bare, I.base, I.loc, I.cell, I.free, I.freeC, I.pin, I.hok, I.len⟩
theorem SP.unwish {D : Ends} {f : Flow} {s' : Shared} (h : SP (X.wish E) pins D f s') : SP X pins D f s' := by
  cases f with
  | next => obtain ⟨σ', H', I, q⟩ := h; exact ⟨σ', H', I.unwish, q⟩
  | brk => obtain ⟨σ', H', I, q⟩ := h; exact ⟨σ', H', I.unwish, q⟩
  | cont => obtain ⟨σ', H', I, q⟩ := h; exact ⟨σ', H', I.unwish, q⟩
  | ret u => obtain ⟨v, σ', H', I, r, q⟩ := h; exact ⟨v, σ', H', I.unwish, r, q⟩
theorem PE.nox {e : Expr} {t : TE} (h : PE X.nox e t) : PE X e t := fun pins s σ H Q I hw =>
  wpAny_mono (h pins s σ H Q (I.wish _) hw) (fun _ _ ⟨v, H', I', r, q⟩ => ⟨v, H', I'.unwish, r, q⟩) fun _ _ z => False.elim z
theorem PT.nox {e : Expr} {t : TT} (h : PT X.nox e t) : PT X e t := fun pins s σ H Q I hw =>
  wpAny_mono (h pins s σ H Q (I.wish _) hw) (fun _ _ ⟨H', I', q⟩ => ⟨H', I'.unwish, q⟩) fun _ _ z => False.elim z
theorem PSs.nox {st : List Stmt} {t : TS} (h : PSs X.nox st t) : PSs X st t := fun pins s σ H D I hw =>
  wpAny_mono (h pins s σ H D (I.wish _) hw) (fun _ _ q => q.unwish) fun _ _ z => False.elim z
end

/-! ### blocks and small statements -/
section
variable {X : Cx} {st : Stmt} {rest : List Stmt} {t u : TS} {e : Expr} {te : TE} {pos : Pos}
def tNext : TS := fun D σ H => D.nx σ H
def tSeq (t u : TS) : TS := fun D σ H => t { D with nx := u D } σ H
theorem pss_nil : PSs X [] tNext := fun _ _ σ H _ I h => wpAny_execs_nil ⟨σ, H, I, h⟩
theorem pss_cons (h1 : PS X st t) (h2 : PSs X rest u) : PSs X (st :: rest) (tSeq t u) := by
  intro pins s σ H D I h
  refine wpAny_execs_cons (thn (h1 pins s σ H { D with nx := u D } I h) fun f s1 q => ?_)
  cases f with
  | next =>
    obtain ⟨σ', H', I', q⟩ := q
    exact h2 pins s1 σ' H' D I' q
  | ret v => exact q
  | brk => exact q
  | cont => exact q
theorem pss_one (h1 : PS X st t) : PSs X [st] t := by
  intro pins s σ H D I h
  refine wpAny_execs_cons (thn (h1 pins s σ H D I h) fun f s1 q => ?_)
  cases f with
  | next => exact wpAny_execs_nil q
  | ret v => exact q
  | brk => exact q
  | cont => exact q
def tBreak : TS := fun D σ H => D.bk σ H
def tCont : TS := fun D σ H => D.ct σ H
theorem ps_pass : PS X (.Pass pos) tNext := fun _ _ σ H _ I h => wpAny_Pass ⟨σ, H, I, h⟩
theorem ps_break : PS X (.Break pos) tBreak := fun _ _ σ H _ I h => wpAny_Break ⟨σ, H, I, h⟩
theorem ps_continue : PS X (.Continue pos) tCont := fun _ _ σ H _ I h => wpAny_Continue ⟨σ, H, I, h⟩
/-- in a def's body nothing is shown -/
theorem Inv.quiet {pins : List (Addr × Obj)} {σ : St} {H : Hp} {s : Shared} (I : Inv X pins σ H s) : interactive X.env = false := by simp [interactive, I.ok.kind]
/-- a docstring -/
theorem ps_doc {x j pos pos'} : PS X (.Expr (.Constant (.str x) j pos) pos') tNext := fun _ s σ H _ I h => wpAny_Expr (Calls.Constant_str (show SP X _ _ .next { s with toks := s.toks + 1 } from ⟨σ, H, I.tok _, h⟩)) I.quiet
/-- an expression whose value is dropped -/
def tDrop (te : TE) : TS := fun D σ H => te σ H fun _ H1 => D.nx σ H1
theorem ps_expr (he : PE X e te) (hs : swapsWith e none pos.line X.env = pure false := by rfl) : PS X (.Expr e pos) (tDrop te) := by
  intro pins s σ H D I h
  exact wpAny_Expr_any (thn (he pins s σ H _ I h) fun v s1 ⟨x, H1, I1, r1, q1⟩ => ⟨σ, H1, I1, q1⟩) I.quiet hs
def tRet (te : TE) : TS := fun D σ H => te σ H D.rt
theorem ps_ret (he : PE X e te) : PS X (.Return (some e) pos) (tRet te) := by
  intro pins s σ H D I h
  exact wpAny_Return_some (thn (he pins s σ H _ I h) fun v s1 ⟨x, H1, I1, r1, q1⟩ => ⟨x, σ, H1, I1, r1, q1⟩)
def tRetN : TS := fun D _ H => D.rt .non H
theorem ps_retN : PS X (.Return none pos) tRetN := fun _ _ σ H _ I h => wpAny_Return_none ⟨.non, σ, H, I, rfl, h⟩
def tIfS (c : TT) (t u : TS) : TS := fun D σ H => c σ H fun b H1 => if b = true then t D σ H1 else u D σ H1
theorem ps_if {c : Expr} {a b : List Stmt} {tc : TT} (hc : PT X c tc) (ha : PSs X a t) (hb : PSs X b u) : PS X (.If c a b pos) (tIfS tc t u) := by
  intro pins s σ H D I h
  refine wpAny_If (thn (hc pins s σ H _ I h) fun d s1 ⟨H1, I1, q1⟩ => ?_)
  cases d with
  | true => exact ha pins s1 σ H1 D I1 q1
  | false => exact hb pins s1 σ H1 D I1 q1
/-- code that the proof never comes to -/
def tNever : TS := fun _ _ _ => False
theorem ps_never : PS X st tNever := fun _ _ _ _ _ _ h => h.elim
theorem pss_never {sts : List Stmt} : PSs X sts tNever := fun _ _ _ _ _ _ h => h.elim
end

/-! ### targets -/
abbrev TG := V → St → Hp → (St → Hp → Prop) → Prop
abbrev TGs := List V → St → Hp → (St → Hp → Prop) → Prop
def PG (X : Cx) (target : Expr) (t : TG) : Prop :=
  ∀ (pins : List (Addr × Obj)) (s : Shared) (σ : St) (H : Hp) (v : V) (u : Value) (Q : St → Hp → Prop), Inv X pins σ H s → RelV v u → t v σ H Q →
    wpAny (model X.prog X.w) X.A (assign target X.env u) (fun _ s' => ∃ σ' H', Inv X pins σ' H' s' ∧ Q σ' H') X.xe s
/-- several targets, one after another -/
def PGs (X : Cx) (ts : List Expr) (t : TGs) : Prop :=
  ∀ (pins : List (Addr × Obj)) (s : Shared) (σ : St) (H : Hp) (vs : List V) (us : List Value) (Q : St → Hp → Prop), Inv X pins σ H s → Vals vs us → t vs σ H Q →
    wpAny (model X.prog X.w) X.A (assignInOrder ((assignEach ts X.env).map (·.2)) us) (fun _ s' => ∃ σ' H', Inv X pins σ' H' s' ∧ Q σ' H') X.xe s
/-- o[i] = v, by values -/
abbrev TSet := V → V → V → Hp → (Hp → Prop) → Prop
def PSet (X : Cx) (t : TSet) : Prop :=
  ∀ (pins : List (Addr × Obj)) (s : Shared) (σ : St) (H : Hp) (o i v : V) (ov iv u : Value) (Q : Hp → Prop), Inv X pins σ H s → RelV o ov → RelV i iv → RelV v u → t o i v H Q →
    wpAny (model X.prog X.w) X.A (setItem ov iv u) (fun _ s' => ∃ H', Inv X pins σ H' s' ∧ Q H') X.xe s
/-- a op= b, by values -/
abbrev TIp := V → V → Hp → VK → Prop
def PIp (X : Cx) (op : Operator) (t : TIp) : Prop :=
  ∀ (pins : List (Addr × Obj)) (s : Shared) (σ : St) (H : Hp) (x y : V) (v u : Value) (Q : VK), Inv X pins σ H s → RelV x v → RelV y u → t x y H Q →
    wpAny (model X.prog X.w) X.A (inplaceOp op v u) (EP X pins σ Q) X.xe s
section
variable {X : Cx} {pos : Pos}
def gName (i : Nat) : TG := fun v σ H Q => Q (σ.set i (some v)) H
theorem pg_name {i : Nat} {x : Str} (hN : X.N.Nodup) (hi : X.N[i]? = some x) (hx : Loc X.env.scope x) (hf : X.fn x = true ∨ X.env.scope.names.lookup x = some .local := by first | exact .inl rfl | exact .inr rfl | assumption) : PG X (.Name x pos) (gName i) := by
  intro pins s σ H v u Q I r h
  exact wpAny_assign_Name (store_ok I hN hi hx r (fun s' I' => ⟨_, H, I', h⟩) hf)
def gNil : TGs := fun vs σ H Q => vs = [] ∧ Q σ H
def gCons (t : TG) (u : TGs) : TGs := fun vs σ H Q => ∃ v r, vs = v :: r ∧ t v σ H fun σ' H' => u r σ' H' Q
theorem pgs_nil : PGs X [] gNil := by
  intro pins s σ H vs us Q I r h
  obtain ⟨e, h⟩ := h
  subst e
  cases r
  exact assignInOrder_nil ⟨σ, H, I, h⟩
theorem pgs_cons {e : Expr} {es : List Expr} {t : TG} {u : TGs} (h1 : PG X e t) (h2 : PGs X es u)
    (hs : (assignEach (e :: es) X.env).map (·.2) = assign e X.env :: (assignEach es X.env).map (·.2) := by rfl) : PGs X (e :: es) (gCons t u) := by
  intro pins s σ H vs us Q I r h
  obtain ⟨v, vr, e1, h⟩ := h
  subst e1
  cases r with
  | cons r rr =>
    rw [hs]
    refine assignInOrder_cons (thn (h1 pins s σ H _ _ _ I r h) fun _ s1 ⟨σ1, H1, I1, q1⟩ => ?_)
    exact h2 pins s1 σ1 H1 _ _ Q I1 rr q1
/-- (a, b, ..) = a tuple of that length -/
def gTup (K : PySem.W.Frag) (n : Nat) (t : TGs) : TG := fun v σ H Q => ∃ a xs, v = .ref a ∧ SqT K H a xs ∧ xs.length = n ∧ t xs σ H Q
theorem pg_tup {es : List Expr} {k : Nat} {t : TGs} {n : Nat} (hc : X.calm = true) (h : PGs X es t)
    (hn : (assignEach es X.env).length = n := by rfl) (hst : (assignEach es X.env).findIdx? (·.1) = none := by rfl) : PG X (.Tuple es k pos) (gTup X.K n t) := by
  intro pins s σ H v u Q I r hw
  obtain ⟨a, xs, e1, hq, hl, hw⟩ := hw
  subst e1
  cases r
  obtain ⟨its, rv, ht, hz⟩ := I.tuple hq
  refine assign_Tuple_tuple (I.ok.hd hc) ht (by simp [hn, ← hl, rv.length]) hst fun h' hx => ?_
  have I1 : Inv X pins σ H { s with heap := h' } := I.kept (t' := s.toks) fun b o e => hx b o (Nat.ne_of_lt (Heap.lt_size e)) e
  exact h pins _ σ H xs _ Q I1 (by simpa using rv) hw
/-- o[i] = .. -/
def gSub (to ti : TE) (t : TSet) : TG := fun v σ H Q => to σ H fun o H1 => ti σ H1 fun i H2 => t o i v H2 fun H3 => Q σ H3
theorem pg_sub {o i : Expr} {to ti : TE} {t : TSet} (ho : PE X o to) (hi : PE X i ti) (hs : PSet X t)
    (ha : ∀ v, assign (.Subscript o i pos) X.env v = (do
      let ov ← holding [v] (eval o X.env)
      let iv ← holding [v, ov] (eval i X.env)
      standAt pos
      holding [v, ov, iv] (setItem ov iv v)
      release [v, ov, iv] []) := by intro _; rfl) : PG X (.Subscript o i pos) (gSub to ti t) := by
  intro pins s σ H v u Q I r h
  rw [ha]
  refine wpAny_bind (wpAny_holding (thn (ho pins s σ H _ I h) fun ov s1 ⟨x, H1, I1, r1, q1⟩ => ?_))
  refine wpAny_bind (wpAny_holding (thn (hi pins s1 σ H1 _ I1 q1) fun iv s2 ⟨y, H2, I2, r2, q2⟩ => ?_))
  refine wpAny_bind (wpAny_standAt (wpAny_bind (wpAny_holding (thn (hs pins s2 σ H2 x y v ov iv u _ I2 r1 r2 r q2) fun _ s3 ⟨H3, I3, q3⟩ => ?_))))
  exact wpAny_release ⟨σ, H3, I3, q3⟩
/-- target = value -/
def tAsg (te : TE) (g : TG) : TS := fun D σ H => te σ H fun x H1 => g x σ H1 D.nx
theorem ps_asg {tg e : Expr} {te : TE} {g : TG} (he : PE X e te) (hg : PG X tg g) (hs : swapsWithSole [tg] e pos.line X.env = pure false := by rfl) (hw : swappedStores [tg] e X.env = pure none := by rfl)
    (h1 : (assignEach [tg] X.env).map (·.2) = [assign tg X.env] := by rfl) : PS X (.Assign [tg] e pos) (tAsg te g) := by
  intro pins s σ H D I h
  refine wpAny_Assign_stores (thn (he pins s σ H _ I h) fun v s1 ⟨x, H1, I1, r1, q1⟩ => ?_) hs hw
  rw [h1]
  exact thn (hg pins s1 σ H1 x v _ I1 r1 q1) fun _ s2 q => q
/-- name = value -/
theorem ps_set {i : Nat} {x : Str} {e : Expr} {te : TE} {pos' : Pos} (hN : X.N.Nodup) (hi : X.N[i]? = some x) (hx : Loc X.env.scope x) (he : PE X e te) (hs : swapsWith e (some (.Name x pos')) pos.line X.env = pure false := by rfl) (hf : X.fn x = true ∨ X.env.scope.names.lookup x = some .local := by first | exact .inl rfl | exact .inr rfl | assumption) :
    PS X (.Assign [.Name x pos'] e pos) (tAsg te (gName i)) := by
  intro pins s σ H D I h
  refine wpAny_Assign_Name (thn (he pins s σ H _ I h) fun v s1 ⟨y, H1, I1, r1, q1⟩ => ?_) hs
  exact store_ok I1 hN hi hx r1 (fun s2 I2 => ⟨_, H1, I2, q1⟩) hf
/-- a, b = x, y with plain local names: stored from the right; the pair itself is not tracked (the opening rows as in PyProof/Rows/TupAssign.lean:23) -/
def tPar (i j : Nat) (ta : TA) : TS := fun D σ H => ta σ H fun vs H1 => ∃ v w, vs = [v, w] ∧ D.nx ((σ.set i (some v)).set j (some w)) H1
theorem ps_par {i j : Nat} {x y : Str} {a b : Expr} {ta : TA} {px py pt : Pos} {kt k2 pt2} (hc : X.calm = true) (hN : X.N.Nodup) (hi : X.N[i]? = some x) (hj : X.N[j]? = some y) (hij : i ≠ j)
    (hx : X.env.scope.names.lookup x = some .local) (hy : X.env.scope.names.lookup y = some .local) (ha : PA X [a, b] ta)
    (hw : swappedStores [.Tuple [.Name x px, .Name y py] kt pt] (.Tuple [a, b] k2 pt2) X.env = pure (some [x, y]))
    (hs : swapsWithSole [.Tuple [.Name x px, .Name y py] kt pt] (.Tuple [a, b] k2 pt2) pos.line X.env = pure false := by rfl) :
    PS X (.Assign [.Tuple [.Name x px, .Name y py] kt pt] (.Tuple [a, b] k2 pt2) pos) (tPar i j ta) := by
  intro pins s σ H D I h
  rw [exec_Assign_arm]
  refine wpAny_bind (wpAny_standAt ?_)
  rw [hs]
  refine wpAny_bind (wpAny_pure ?_)
  rw [if_neg (by decide)]
  refine wpAny_bind (Tuple_ (thn (ha _ pins s σ H _ I h) fun us s1 ⟨vs, H1, I1, r1, q1⟩ => ?_))
  obtain ⟨v, w, e1, q1⟩ := q1
  subst e1
  obtain ⟨u1, u2, rfl, rv, rw'⟩ : ∃ u1 u2, us = [u1, u2] ∧ RelV v u1 ∧ RelV w u2 := by
    cases r1 with
    | cons p q =>
      cases q with
      | cons p' q' =>
        cases q'
        exact ⟨_, _, rfl, p, p'⟩
  refine wpAny_newObj_type ?_ (by show 2 ≤ sizeLine; decide)
  have I2 : Inv X pins σ H1 { s1 with heap := s1.heap.push { cls := .type "tuple", data := .seq [u1, u2].toArray } } := I1.kept (t' := s1.toks) fun b o e => Heap.get?_push_of_some _ e
  rw [hw]
  refine wpAny_bind (wpAny_pure ?_)
  show wpAny (model X.prog X.w) X.A (do rule "assign.swapped-stores"; let items ← unpackItems (.ref s1.heap.objs.size) 2 none; assignInOrder [fun v => bindName X.env y v, fun v => bindName X.env x v] items.reverse; pure Flow.next) _ _ _
  refine wpAny_bind (wpAny_rule (wpAny_bind (unpackItems_tuple (items := #[u1, u2]) (I.ok.hd hc) (IsTup.new s1.heap _) fun h' hx' => ?_)))
  have I3 := I2.kept (h' := h') (t' := s1.toks) fun b o e => hx' b o (Nat.ne_of_lt (Heap.lt_size e)) e
  show wpAny _ _ (assignInOrder [fun v => bindName X.env y v, fun v => bindName X.env x v] [u2, u1] >>= fun _ => pure Flow.next) _ _ _
  refine wpAny_bind (assignInOrder_cons (wpAny_bindName (store_ok I3 hN hj (.inl hy) rw' (fun s2 I4 => ?_) (.inr hy))))
  refine assignInOrder_cons (wpAny_bindName (store_ok I4 hN hi (.inl hx) rv (fun s3 I5 => assignInOrder_nil (wpAny_pure ?_)) (.inr hx)))
  rw [List.set_comm _ _ (Ne.symm hij)] at I5
  exact ⟨_, H1, I5, q1⟩
/-- name op= e -/
def tAug (i : Nat) (te : TE) (ti : TIp) : TS := fun D σ H => ∃ x, σ[i]? = some (some x) ∧ te σ H fun y H1 => ti x y H1 fun z H2 => D.nx (σ.set i (some z)) H2
theorem ps_aug {i : Nat} {x : Str} {e : Expr} {te : TE} {op : Operator} {ti : TIp} {pos' : Pos} (hN : X.N.Nodup) (hi : X.N[i]? = some x) (hx : Loc X.env.scope x) (he : PE X e te) (ho : PIp X op ti) (hf : X.fn x = true ∨ X.env.scope.names.lookup x = some .local := by first | exact .inl rfl | exact .inr rfl | assumption) :
    PS X (.AugAssign (.Name x pos') op e pos) (tAug i te ti) := by
  intro pins s σ H D I h
  obtain ⟨v, e1, h⟩ := h
  obtain ⟨m, hn, hl⟩ := I.loc
  have vis : Vis X.env.scope x := by rcases hx with k | k; exact .inl k; exact .inr (.inl k)
  obtain ⟨u, r, l⟩ := hl i x v hi e1 vis
  refine wpAny_AugAssign_Name ?_
  have go : wpAny (model X.prog X.w) X.A (eval e X.env) (fun w s₂ => wpAny (model X.prog X.w) X.A (inplaceOp op u w) (fun r s₃ => wpAny (model X.prog X.w) X.A (storeName X.env x r) (fun _ => SP X pins D .next) X.xe s₃) X.xe s₂) X.xe s := by
    refine thn (he pins s σ H _ I h) fun w s1 ⟨y, H1, I1, r1, q1⟩ => ?_
    refine thn (ho pins s1 σ H1 v y u w _ I1 r r1 q1) fun z s2 ⟨zv, H2, I2, r2, q2⟩ => ?_
    exact store_ok I2 hN hi hx r2 (fun s3 I3 => ⟨_, H2, I3, q2⟩) hf
  rcases l with ⟨hk, hm⟩ | ⟨hk, c, hc, hcell⟩
  · exact wpAny_loadName_local I.ok.kind hk hn hm go
  · rcases hk with hk | hk
    · exact wpAny_loadName_cell I.ok.kind hk hc hcell go
    · rcases hx with k | k
      · have : X.env.scope.names.lookup x = some .free := hk
        rw [k] at this; cases this
      · have : X.env.scope.names.lookup x = some .free := hk
        rw [k] at this; cases this
/-- o[i] op= e -/
def tAugS (to ti te : TE) (tget : V → V → Hp → VK → Prop) (tip : TIp) (tset : TSet) : TS := fun D σ H => to σ H fun o H1 => ti σ H1 fun i H2 => tget o i H2 fun x H3 => te σ H3 fun y H4 => tip x y H4 fun z H5 => tset o i z H5 fun H6 => D.nx σ H6
/-- o[i], by values -/
def PGet (X : Cx) (t : V → V → Hp → VK → Prop) : Prop :=
  ∀ (pins : List (Addr × Obj)) (s : Shared) (σ : St) (H : Hp) (o i : V) (ov iv : Value) (Q : VK), Inv X pins σ H s → RelV o ov → RelV i iv → t o i H Q →
    wpAny (model X.prog X.w) X.A (getItem ov iv) (EP X pins σ Q) X.xe s
theorem ps_augS {o i e : Expr} {to ti te : TE} {tget : V → V → Hp → VK → Prop} {tip : TIp} {tset : TSet} {op : Operator} {tpos : Pos} (ho : PE X o to) (hi : PE X i ti) (hg : PGet X tget) (he : PE X e te) (hp : PIp X op tip) (hs : PSet X tset)
    (ha : ∀ ov iv new, augStore i ov iv new = (do holding [new, ov, iv] (setItem ov iv new); release [new, ov, iv] []; pure .next) := by intros; rfl) : PS X (.AugAssign (.Subscript o i tpos) op e pos) (tAugS to ti te tget tip tset) := by
  intro pins s σ H D I h
  refine wpAny_AugAssign_SubscriptAny (thn (ho pins s σ H _ I h) fun ov s1 ⟨x1, H1, I1, r1, q1⟩ => ?_) ha
  refine thn (hi pins s1 σ H1 _ I1 q1) fun iv s2 ⟨x2, H2, I2, r2, q2⟩ => ?_
  refine thn (hg pins s2 σ H2 x1 x2 ov iv _ I2 r1 r2 q2) fun old s3 ⟨x3, H3, I3, r3, q3⟩ => ?_
  refine thn (he pins s3 σ H3 _ I3 q3) fun v s4 ⟨x4, H4, I4, r4, q4⟩ => ?_
  refine thn (hp pins s4 σ H4 x3 x4 old v _ I4 r3 r4 q4) fun new s5 ⟨x5, H5, I5, r5, q5⟩ => ?_
  exact thn (hs pins s5 σ H5 x1 x2 x5 ov iv new _ I5 r1 r2 r5 q5) fun _ s6 ⟨H6, I6, q6⟩ => ⟨σ, H6, I6, q6⟩
/-- ints -/
def ipI (f : Int → Int → Int) : TIp := fun x y H Q => ∃ i j, x = .int i ∧ y = .int j ∧ Q (.int (f i j)) H
theorem ip_add : PIp X .Add (ipI fun i j => i + j) := by
  intro pins s σ H x y v u Q I r1 r2 h
  obtain ⟨i, j, e1, e2, q⟩ := h
  subst e1; subst e2
  obtain ⟨t, rfl⟩ := r1
  obtain ⟨t', rfl⟩ := r2
  exact iadd_int ⟨.int _, H, I.tok _, ⟨_, rfl⟩, q⟩
theorem ip_sub : PIp X .Sub (ipI fun i j => i - j) := by
  intro pins s σ H x y v u Q I r1 r2 h
  obtain ⟨i, j, e1, e2, q⟩ := h
  subst e1; subst e2
  obtain ⟨t, rfl⟩ := r1
  obtain ⟨t', rfl⟩ := r2
  exact isub_int ⟨.int _, H, I.tok _, ⟨_, rfl⟩, q⟩
end

/-! ### while -/
section
variable {X : Cx} {pos : Pos}
/-- the invariant W with its measure -/
def tWhile (c : TT) (tb : TS) : TS := fun D σ H => ∃ W : Nat → St → Hp → Prop, (∃ m, W m σ H) ∧ ∀ m σ H, W m σ H →
  c σ H fun b H1 => if b = true then ∃ N : St → Hp → Prop, (∀ σ' H', N σ' H' → ∃ m', m' < m ∧ W m' σ' H') ∧ tb { D with nx := N, ct := N, bk := D.nx } σ H1 else D.nx σ H1
theorem ps_while {c : Expr} {body : List Stmt} {tc : TT} {tb : TS} (hp : PassesOwn (model X.prog X.w) X.A X.env X.xe) (hc : PT X c tc) (hb : PSs X body tb) : PS X (.While c body [] pos) (tWhile tc tb) := by
  intro pins s σ H D I h
  obtain ⟨W, ⟨m0, w0⟩, turn⟩ := h
  refine wpAny_While (codeAny_whileLoop (fun n s' => ∃ σ' H', Inv X pins σ' H' s' ∧ W n σ' H') ?_ m0 ⟨σ, H, I, w0⟩)
  rintro n s1 ⟨σ1, H1, I1, w1⟩
  refine wpAny_passesOwn hp (thn (hc pins s1 σ1 H1 _ I1 (turn n σ1 H1 w1)) fun b s2 ⟨H2, I2, q2⟩ => ?_)
  cases b with
  | true =>
    obtain ⟨N, hN, q2⟩ := q2
    rw [if_pos rfl]
    refine wpAny_passesOwn hp (thn (hb pins s2 σ1 H2 _ I2 q2) fun f s3 q3 => ?_)
    cases f with
    | next =>
      obtain ⟨σ3, H3, I3, n3⟩ := q3
      obtain ⟨m', hm, w3⟩ := hN σ3 H3 n3
      exact ⟨m', hm, σ3, H3, I3, w3⟩
    | cont =>
      obtain ⟨σ3, H3, I3, n3⟩ := q3
      obtain ⟨m', hm, w3⟩ := hN σ3 H3 n3
      exact ⟨m', hm, σ3, H3, I3, w3⟩
    | brk => exact q3
    | ret v => exact q3
  | false =>
    rw [if_neg Bool.false_ne_true]
    exact wpAny_execs_nil ⟨σ1, H2, I2, q2⟩
end

/-! ### what a loop or a comprehension walks -/
/-- at turn i: it yields x (the heap may grow), or it stops -/
structure It where
  go : Nat → Hp → Prop
  yld : Nat → Hp → V → Hp → Prop
  stop : Nat → Hp → Prop
/-- the iterator's own objects may turn: they are not the frame's, not pinned, younger than the entry (or a comprehension's own) -/
def FpOk (X : Cx) (pins : List (Addr × Obj)) (H : Hp) (b : Addr) : Prop :=
  H b = none ∧ b ≠ X.env.locals ∧ b ∉ X.fs ∧ (b ∈ X.ex ∨ X.s₀.heap.objs.size ≤ b) ∧ (∀ x c, X.env.cells.lookup x = some c → c ≠ b) ∧ ∀ p ∈ X.pn ++ pins, p.1 ≠ b
theorem Inv.fpOk {X : Cx} {pins : List (Addr × Obj)} {σ : St} {H H' : Hp} {s : Shared} {b : Addr} (I : Inv X pins σ H s) (hb : s.heap.objs.size ≤ b) (hn : H' b = none) : FpOk X pins H' b := by
  refine ⟨hn, Nat.ne_of_gt (Nat.lt_of_lt_of_le I.lt hb), I.nofs hb, .inr (Nat.le_trans I.sz hb), fun x c e z => ?_, fun p hp z => ?_⟩
  · obtain ⟨v, q⟩ := I.cell x c e
    exact absurd (Nat.lt_of_lt_of_le q.lt (by rw [z]; exact hb)) (Nat.lt_irrefl _)
  · exact absurd (Nat.lt_of_lt_of_le (Heap.lt_size (I.pin p hp).1) (by rw [z]; exact hb)) (Nat.lt_irrefl _)
structure Turn (P : Program) (w : World) (K : PySem.W.Frag) (tg : Expr) (J : It) (fp : List Addr) (it : Addr) (tn : Nat → Heap → Prop) : Prop where
  mem : it ∈ fp
  obj : ∀ i h, tn i h → ∀ b ∈ fp, ∃ o, h.get? b = some o ∧ ∀ v, o.data ≠ .cell v
  keep : ∀ i h h', tn i h → (∀ b ∈ fp, ∀ o, h.get? b = some o → h'.get? b = some o) → tn i h'
  item : ∀ (X : Cx), X.prog = P → X.w = w → X.K = K → X.calm = true → ∀ (i : Nat) (pins : List (Addr × Obj)) (s : Shared) (σ : St) (H : Hp) (E : Value → Shared → Prop), Inv X pins σ H s → (∀ b ∈ fp, FpOk X pins H b) → tn i s.heap → J.go i H →
    wpAny (model P w) X.A (pyNext (.ref it)) (fun r s1 => ∃ u, r = some u ∧
      wpAny (model P w) X.A (letOwnedTupleGo tg (.ref it) u) (fun _ s2 => ∃ x H', Inv X pins σ H' s2 ∧ RelV x u ∧ J.yld i H x H' ∧ tn (i + 1) s2.heap ∧ ∀ b ∈ fp, H' b = none) E s1) E s
  done : ∀ (X : Cx), X.prog = P → X.w = w → X.K = K → X.calm = true → ∀ (i : Nat) (pins : List (Addr × Obj)) (s : Shared) (σ : St) (H : Hp) (E : Value → Shared → Prop), Inv X pins σ H s → (∀ b ∈ fp, FpOk X pins H b) → tn i s.heap → J.stop i H →
    wpAny (model P w) X.A (pyNext (.ref it)) (fun r s1 => r = none ∧ Inv X pins σ H s1) E s
  self : ∀ (A : Around) (i : Nat) (s : Shared) (Q : Value → Shared → Prop) (E : Value → Shared → Prop), tn i s.heap → Q (.ref it) s → wpAny (model P w) A (pyIter (.ref it)) Q E s
abbrev TI := St → Hp → (It → Hp → Prop) → Prop
/-- an iterator has come -/
def PIE (X : Cx) (pins : List (Addr × Obj)) (σ : St) (tg : Expr) (R : It → Hp → Prop) (itv : Value) (s2 : Shared) : Prop :=
  ∃ (it : Addr) (fp : List Addr) (tn : Nat → Heap → Prop) (J : It) (H' : Hp), itv = .ref it ∧ Inv X pins σ H' s2 ∧ Turn X.prog X.w X.K tg J fp it tn ∧ tn 0 s2.heap ∧ (∀ b ∈ fp, FpOk X pins H' b) ∧ R J H'
def PI (X : Cx) (tg iter : Expr) (wi : TI) : Prop :=
  ∀ (pins : List (Addr × Obj)) (s : Shared) (σ : St) (H : Hp) (R : It → Hp → Prop), Inv X pins σ H s → wi σ H R →
    wpAny (model X.prog X.w) X.A (eval iter X.env) (fun v s1 => wpAny (model X.prog X.w) X.A (pyIter v) (PIE X pins σ tg R) X.xe s1) X.xe s

/-- the step ahead of the store is nothing for an iterator that keeps no tuple -/
theorem go_of {M : Model} {A : Around} {E : Value → Shared → Prop} {s : Shared} {tg : Expr} {it : Addr} {u : Value} {o : Obj} {n : String} {vs : Array Value} {Q : Unit → Shared → Prop} (ho : s.heap.get? it = some o) (hc : o.cls = .type n) (hd : o.data = .fields vs)
    (hn : ["enumerate", "zip", "dict_itemiterator", "dict_reverseitemiterator", "odict_iterator", "itertools.zip_longest", "itertools.pairwise"].contains n = false) (hQ : Q () s) : wpAny M A (letOwnedTupleGo tg (.ref it) u) Q E s := by
  unfold letOwnedTupleGo
  cases tg <;> first
    | exact wpAny_pure hQ
    | (cases u <;> first
        | exact wpAny_pure hQ
        | (refine wpAny_bind (wpAny_load ho ?_)
           rw [hc, hd]
           show wpAny M A (if (["enumerate", "zip", "dict_itemiterator", "dict_reverseitemiterator", "odict_iterator", "itertools.zip_longest", "itertools.pairwise"].contains n && vs[0]? == some (rawInt _)) = true then _ else _) Q E s
           rw [if_neg (by intro h; rw [hn, Bool.false_and] at h; cases h)]
           exact wpAny_pure hQ))

/-- the list at a, as it stands at each turn (a loop may append to it) -/
def Itl (K : PySem.W.Frag) (a : Addr) : It :=
  ⟨fun i H => ∃ xs x, SqL K H a xs ∧ xs[i]? = some x, fun i H x H' => H' = H ∧ ∀ xs, SqL K H a xs → xs[i]? = some x, fun i H => ∃ xs, SqL K H a xs ∧ xs.length ≤ i⟩
def Itt (K : PySem.W.Frag) (a : Addr) : It :=
  ⟨fun i H => ∃ xs x, SqT K H a xs ∧ xs[i]? = some x, fun i H x H' => H' = H ∧ ∀ xs, SqT K H a xs → xs[i]? = some x, fun i H => ∃ xs, SqT K H a xs ∧ xs.length ≤ i⟩
/-- lo, lo + 1, .. (n of them) -/
def Itr (lo : Int) (n : Nat) : It := ⟨fun i _ => i < n, fun i H x H' => H' = H ∧ x = .int (lo + i), fun i _ => n ≤ i⟩
theorem turn_list {P : Program} {w : World} {K : PySem.W.Frag} {tg : Expr} (a it : Addr) : Turn P w K tg (Itl K a) [it] it (fun i h => h.IsListIter it a i) where
  mem := by simp
  obj := fun i h st b hb => by
    have e : b = it := by simpa using hb
    subst e
    obtain ⟨o, e, c, d⟩ := st
    exact ⟨o, e, fun v z => by rw [d] at z; cases z⟩
  keep := fun i h h' st k => st.at fun o e => k it (by simp) o e
  item := by
    intro X hP hw hK hc i pins s σ H E I hf st hg
    subst hP hw hK
    obtain ⟨xs, x, hq, hx⟩ := hg
    obtain ⟨its, rv, p, hz⟩ := I.list hq
    obtain ⟨u, hu, ru⟩ := rv.get hx
    obtain ⟨f0, f1, f2, f3, f4, f5⟩ := hf it (by simp)
    refine wpAny_pyNext_list_item st p.isList (x := u) (by simpa using hu) fun h' st' sb => ?_
    have I1 : Inv X pins σ H { s with heap := h' } := I.turned (t' := s.toks) (fun b o hb e => (sb.2 b hb).trans e) f0 f1 f3 f4 f5
    obtain ⟨o, e, c, d⟩ := id st'
    exact ⟨u, rfl, go_of (s := { s with heap := h' }) e c d (by decide) ⟨x, H, I1, ru, ⟨rfl, fun ys hy => by rw [I.list_inj hy hq]; exact hx⟩, st', fun b hb => (hf b hb).1⟩⟩
  done := by
    intro X hP hw hK hc i pins s σ H E I hf st hg
    subst hP hw hK
    obtain ⟨xs, hq, hx⟩ := hg
    obtain ⟨its, rv, p, hz⟩ := I.list hq
    obtain ⟨f0, f1, f2, f3, f4, f5⟩ := hf it (by simp)
    have hl := rv.length
    exact wpAny_pyNext_list_end (I.ok.hd hc) st p.isList (by simp; omega) fun h' eb => ⟨rfl, I.turned (t' := s.toks) (fun b o hb e => eb b o hb e) f0 f1 f3 f4 f5⟩
  self := fun _ _ _ _ _ st h => wpAny_pyIter_listiter st h
theorem turn_tuple {P : Program} {w : World} {K : PySem.W.Frag} {tg : Expr} (a it : Addr) : Turn P w K tg (Itt K a) [it] it (fun i h => h.IsTupleIter it a i) where
  mem := by simp
  obj := fun i h st b hb => by
    have e : b = it := by simpa using hb
    subst e
    obtain ⟨o, e, c, d⟩ := st
    exact ⟨o, e, fun v z => by rw [d] at z; cases z⟩
  keep := fun i h h' st k => st.at fun o e => k it (by simp) o e
  item := by
    intro X hP hw hK hc i pins s σ H E I hf st hg
    subst hP hw hK
    obtain ⟨xs, x, hq, hx⟩ := hg
    obtain ⟨its, rv, p, hz⟩ := I.tuple hq
    obtain ⟨u, hu, ru⟩ := rv.get hx
    obtain ⟨f0, f1, f2, f3, f4, f5⟩ := hf it (by simp)
    refine wpAny_pyNext_tuple_item st (show s.heap.IsTuple a its.toArray from p) (x := u) (by simpa using hu) fun h' st' sb => ?_
    have I1 : Inv X pins σ H { s with heap := h' } := I.turned (t' := s.toks) (fun b o hb e => (sb.2 b hb).trans e) f0 f1 f3 f4 f5
    obtain ⟨o, e, c, d⟩ := id st'
    exact ⟨u, rfl, go_of (s := { s with heap := h' }) e c d (by decide) ⟨x, H, I1, ru, ⟨rfl, fun ys hy => by rw [I.tuple_inj hy hq]; exact hx⟩, st', fun b hb => (hf b hb).1⟩⟩
  done := by
    intro X hP hw hK hc i pins s σ H E I hf st hg
    subst hP hw hK
    obtain ⟨xs, hq, hx⟩ := hg
    obtain ⟨its, rv, p, hz⟩ := I.tuple hq
    obtain ⟨f0, f1, f2, f3, f4, f5⟩ := hf it (by simp)
    have hl := rv.length
    exact wpAny_pyNext_tuple_end (I.ok.hd hc) st (show s.heap.IsTuple a its.toArray from p) (by simp; omega) fun h' eb => ⟨rfl, I.turned (t' := s.toks) (fun b o hb e => eb b o hb e) f0 f1 f3 f4 f5⟩
  self := fun _ _ _ _ _ st h => wpAny_pyIter_tupleiter st h
theorem turn_range {P : Program} {w : World} {K : PySem.W.Frag} {tg : Expr} (it : Addr) (lo : Int) (n : Nat) : Turn P w K tg (Itr lo n) [it] it (fun i h => IsRangeIter h it (lo + (i : Nat) * 1) ((n : Int) - (i : Nat)) 1) where
  mem := by simp
  obj := fun i h st b hb => by
    have e : b = it := by simpa using hb
    subst e
    exact ⟨_, st, fun v z => by
      have z' : Data.fields _ = Data.cell v := z
      cases z'⟩
  keep := fun i h h' st k => k it (by simp) _ st
  item := by
    intro X hP hw hK hc i pins s σ H E I hf st hg
    subst hP hw hK
    obtain ⟨f0, f1, f2, f3, f4, f5⟩ := hf it (by simp)
    have W := Walks.range (prog := X.prog) (w := X.w) (I.ok.hd hc) it lo 1 n
    refine W.item i s _ _ hg st fun v h' tk hv st' kk => ?_
    obtain ⟨t, rfl⟩ := hv
    have I1 : Inv X pins σ H { s with heap := h', toks := tk } := I.turned (fun b o hb e => kk b o (by simpa using hb) e) f0 f1 f3 f4 f5
    refine ⟨_, rfl, go_of (s := { s with heap := h', toks := tk }) (n := "range_iterator") st' rfl rfl (by decide) ⟨.int (lo + i), H, I1, ⟨t, ?_⟩, ⟨rfl, rfl⟩, st', fun b hb => (hf b hb).1⟩⟩
    rw [Int.mul_one]
  done := by
    intro X hP hw hK hc i pins s σ H E I hf st hg
    subst hP hw hK
    obtain ⟨f0, f1, f2, f3, f4, f5⟩ := hf it (by simp)
    exact wpAny_pyNext_range_end (I.ok.hd hc) st (by have : n ≤ i := hg; omega) fun h' eb => ⟨rfl, I.turned (t' := s.toks) (fun b o hb e => eb b o hb e) f0 f1 f3 f4 f5⟩
  self := fun _ _ _ _ _ st h => wpAny_pyIter_rangeiter st h
end L2

namespace L2
open PySem PySem.Spec PyProof.Rows
section
variable {X : Cx} {tg : Expr}
def iList (K : PySem.W.Frag) (tl : TE) : TI := fun σ H R => tl σ H fun x H1 => ∃ a, x = .ref a ∧ (∃ xs, SqL K H1 a xs) ∧ R (Itl K a) H1
def iTup (K : PySem.W.Frag) (tl : TE) : TI := fun σ H R => tl σ H fun x H1 => ∃ a, x = .ref a ∧ (∃ xs, SqT K H1 a xs) ∧ R (Itt K a) H1
theorem pi_list {l : Expr} {tl : TE} (hl : PE X l tl) : PI X tg l (iList X.K tl) := by
  intro pins s σ H R I h
  refine thn (hl pins s σ H _ I h) fun v s1 ⟨x, H1, I1, r1, q1⟩ => ?_
  obtain ⟨a, e, ⟨xs, hq⟩, q⟩ := q1
  subst e
  cases r1
  obtain ⟨its, rv, p, hz⟩ := I1.list hq
  refine wpAny_pyIter_list p.isList ?_
  refine ⟨s1.heap.objs.size, [s1.heap.objs.size], _, _, H1, rfl, I1.kept (t' := s1.toks) fun b o e => Heap.get?_push_of_some _ e, turn_list a _, ⟨_, Heap.get?_push_size _ rfl, rfl, rfl⟩, fun b hb => ?_, q⟩
  have e : b = s1.heap.objs.size := by simpa using hb
  subst e
  exact I1.fpOk (Nat.le_refl _) (I1.hok.fresh (Nat.le_refl _))
theorem pi_tup {l : Expr} {tl : TE} (hl : PE X l tl) : PI X tg l (iTup X.K tl) := by
  intro pins s σ H R I h
  refine thn (hl pins s σ H _ I h) fun v s1 ⟨x, H1, I1, r1, q1⟩ => ?_
  obtain ⟨a, e, ⟨xs, hq⟩, q⟩ := q1
  subst e
  cases r1
  obtain ⟨its, rv, p, hz⟩ := I1.tuple hq
  refine wpAny_pyIter_tuple (show s1.heap.IsTuple a its.toArray from p) ?_
  refine ⟨s1.heap.objs.size, [s1.heap.objs.size], _, _, H1, rfl, I1.kept (t' := s1.toks) fun b o e => Heap.get?_push_of_some _ e, turn_tuple a _, ⟨_, Heap.get?_push_size _ rfl, rfl, rfl⟩, fun b hb => ?_, q⟩
  have e : b = s1.heap.objs.size := by simpa using hb
  subst e
  exact I1.fpOk (Nat.le_refl _) (I1.hok.fresh (Nat.le_refl _))
/-- a range object just made, walked -/
theorem range_it {pins : List (Addr × Obj)} {σ : St} {H : Hp} {s : Shared} {R : It → Hp → Prop} {E : Value → Shared → Prop} {lo hi : Int} {t u v : Tok} {tk : Nat} (I : Inv X pins σ H s) (h1 : -(2 ^ 62) ≤ lo) (h2 : lo < 2 ^ 62) (h3 : -(2 ^ 62) ≤ hi) (h4 : hi < 2 ^ 62)
    (q : R (Itr lo (hi - lo).toNat) H) : wpAny (model X.prog X.w) X.A (pyIter (.ref s.heap.objs.size)) (PIE X pins σ tg R) E { s with heap := s.heap.push { cls := .type "range", data := .fields #[.int lo t, .int hi u, .int 1 v] }, toks := tk } := by
  refine wpAny_pyIter_range (IsRange.new ..) (small_one h1 h2 h3 h4) ?_
  have I1 : Inv X pins σ H { s with heap := s.heap.push { cls := .type "range", data := .fields #[.int lo t, .int hi u, .int 1 v] }, toks := tk } := I.kept fun b o e => Heap.get?_push_of_some _ e
  refine ⟨(s.heap.push { cls := .type "range", data := .fields #[.int lo t, .int hi u, .int 1 v] }).objs.size, [(s.heap.push { cls := .type "range", data := .fields #[.int lo t, .int hi u, .int 1 v] }).objs.size], _, _, H, rfl,
    I1.kept (t' := tk) fun b o e => Heap.get?_push_of_some _ e, turn_range _ lo (hi - lo).toNat, ?_, fun b hb => ?_, q⟩
  · have e1 : lo + ((0 : Nat) : Int) * 1 = lo := by simp
    have e2 : (((hi - lo).toNat : Nat) : Int) - ((0 : Nat) : Int) = Builtin.Range.rangeSize lo hi 1 := by rw [rangeSize_one]; split <;> omega
    show IsRangeIter _ _ (lo + ((0 : Nat) : Int) * 1) ((((hi - lo).toNat : Nat) : Int) - ((0 : Nat) : Int)) 1
    rw [e1, e2]
    exact Heap.get?_push_size _ rfl
  · have e : b = (s.heap.push { cls := .type "range", data := .fields #[.int lo t, .int hi u, .int 1 v] }).objs.size := by simpa using hb
    subst e
    exact I1.fpOk (Nat.le_refl _) (I1.hok.fresh (Nat.le_refl _))
def iRng1 (ta : TA) : TI := fun σ H R => ta σ H fun vs H1 => ∃ j : Int, vs = [.int j] ∧ -(2 ^ 62) ≤ j ∧ j < 2 ^ 62 ∧ R (Itr 0 j.toNat) H1
def iRng2 (ta : TA) : TI := fun σ H R => ta σ H fun vs H1 => ∃ i j : Int, vs = [.int i, .int j] ∧ (-(2 ^ 62) ≤ i ∧ i < 2 ^ 62 ∧ -(2 ^ 62) ≤ j ∧ j < 2 ^ 62) ∧ R (Itr i (j - i).toNat) H1
theorem pi_range1 {a : Expr} {ta : TA} {p pos : Pos} (hg : Gl X "range") (hm : X.mg "range" = none) (ha : PA X [a] ta) (hs : starEach [a] X.env = [(false, eval a X.env)] := by rfl) : PI X tg (.Call (.Name "range" p) [a] [] pos) (iRng1 ta) := by
  intro pins s σ H R I h
  refine Call_ (ld_blt I hg hm boot_range (PyProof.Rows.callWith_type1 (thn (ha pos pins s σ H _ I h) fun us s1 ⟨vs, H1, I1, r1, q1⟩ => ?_) hs rfl))
  obtain ⟨j, e, q1, q2, q⟩ := q1
  subst e
  cases r1 with
  | cons r rr =>
    cases rr
    obtain ⟨t, rfl⟩ := r
    exact call_range_1 (range_it I1 (by omega) (by omega) q1 q2 (by simpa using q))
theorem pi_range2 {a b : Expr} {ta : TA} {p pos : Pos} (hg : Gl X "range") (hm : X.mg "range" = none) (ha : PA X [a, b] ta) (hs : starEach [a, b] X.env = [(false, eval a X.env), (false, eval b X.env)] := by rfl) (hs2 : starEach [b] X.env = [(false, eval b X.env)] := by rfl) :
    PI X tg (.Call (.Name "range" p) [a, b] [] pos) (iRng2 ta) := by
  intro pins s σ H R I h
  refine Call_ (ld_blt I hg hm boot_range (PyProof.Rows.callWith_type1 (thn (ha pos pins s σ H _ I h) fun us s1 ⟨vs, H1, I1, r1, q1⟩ => ?_) (by rw [hs, hs2]) (by rw [hs2]; rfl)))
  obtain ⟨i, j, e, ⟨q1, q2, q3, q4⟩, q⟩ := q1
  subst e
  cases r1 with
  | cons r rr =>
    cases rr with
    | cons r' rr =>
      cases rr
      obtain ⟨t, rfl⟩ := r
      obtain ⟨t', rfl⟩ := r'
      exact call_range_2 (range_it I1 q1 q2 q3 q4 q)

/-! ### for -/
/-- W: the invariant by the turn and a measure; N: what the body is to reach -/
def tFor (wi : TI) (g : TG) (tb : TS) : TS := fun D σ H => wi σ H fun J H1 => ∃ W : Nat → Nat → St → Hp → Prop, (∃ m, W 0 m σ H1) ∧ ∀ i m σ H, W i m σ H →
  (J.stop i H ∧ D.nx σ H) ∨ (J.go i H ∧ ∃ N : St → Hp → Prop, (∀ σ' H', N σ' H' → ∃ m', m' < m ∧ W (i + 1) m' σ' H') ∧ ∀ x H', J.yld i H x H' → g x σ H' fun σ2 H2 => tb { D with nx := N, ct := N, bk := D.nx } σ2 H2)
/-- the records at fp as they stand -/
def pinsAt (fp : List Addr) (h : Heap) : List (Addr × Obj) := fp.filterMap fun b => (h.get? b).map fun o => (b, o)
theorem mem_pinsAt {fp : List Addr} {h : Heap} {b : Addr} {o : Obj} (hb : b ∈ fp) (e : h.get? b = some o) : (b, o) ∈ pinsAt fp h := List.mem_filterMap.mpr ⟨b, hb, by rw [e]; rfl⟩
theorem of_pinsAt {fp : List Addr} {h : Heap} {p : Addr × Obj} (hp : p ∈ pinsAt fp h) : p.1 ∈ fp ∧ h.get? p.1 = some p.2 := by
  obtain ⟨b, hb, e⟩ := List.mem_filterMap.mp hp
  cases q : h.get? b with
  | none => rw [q] at e; cases e
  | some o =>
    rw [q] at e
    have e' : (b, o) = p := Option.some.inj e
    subst e'
    exact ⟨hb, q⟩
theorem Inv.pinned {pins : List (Addr × Obj)} {σ : St} {H : Hp} {s : Shared} {fp : List Addr} (I : Inv X pins σ H s) (hf : ∀ b ∈ fp, FpOk X pins H b) (ho : ∀ b ∈ fp, ∃ o, s.heap.get? b = some o ∧ ∀ v, o.data ≠ .cell v) : Inv X (pins ++ pinsAt fp s.heap) σ H s :=
  I.pins_of fun p hp => (List.mem_append.mp hp).elim (fun z => I.pin p (List.mem_append_right _ z)) fun z => by
    obtain ⟨hb, e⟩ := of_pinsAt z
    obtain ⟨f0, f1, f2, _⟩ := hf p.1 hb
    obtain ⟨o, e', d⟩ := ho p.1 hb
    rw [e] at e'; cases e'
    exact ⟨e, f0, f1, f2, d⟩
theorem Inv.unpinned {pins pl : List (Addr × Obj)} {σ : St} {H : Hp} {s : Shared} (I : Inv X (pins ++ pl) σ H s) : Inv X pins σ H s := I.pins_of fun p hp => I.pin p (List.mem_append_right _ (List.mem_append_left _ hp))
theorem ps_for {iter : Expr} {body : List Stmt} {wi : TI} {g : TG} {tb : TS} {pos : Pos} (hp : PassesOwn (model X.prog X.w) X.A X.env X.xe) (hc : X.calm = true) (hi : PI X tg iter wi) (hg : PG X tg g) (hb : PSs X body tb)
    (hs : ∀ x, foldedSetIterable iter X.env x = pure x := by intro _; rfl) : PS X (.For tg iter body [] pos) (tFor wi g tb) := by
  intro pins s σ H D I h
  refine wpAny_For (thn (hi pins s σ H _ I h) fun v s1 h1 => thn h1 fun itv s2 h2 => ?_) hs
  obtain ⟨it, fp, tn, J, H2, e, I2, T, st2, f2, W, ⟨m0, w0⟩, turn⟩ := h2
  subst e
  -- what stays true of the iterator's objects through the loop
  have stat : ∀ {H' : Hp}, (∀ b ∈ fp, H' b = none) → ∀ b ∈ fp, FpOk X pins H' b := fun hn b hb => ⟨hn b hb, (f2 b hb).2⟩
  refine codeAny_forLoop_any (fun n s' => ∃ i σ' H', Inv X pins σ' H' s' ∧ tn i s'.heap ∧ (∀ b ∈ fp, H' b = none) ∧ W i n σ' H') ?_ m0 ⟨0, σ, H2, I2, st2, fun b hb => (f2 b hb).1, w0⟩
  rintro n s3 ⟨i, σ3, H3, I3, st3, fr3, w3⟩
  rcases turn i n σ3 H3 w3 with ⟨stop, qn⟩ | ⟨go, N, hN, step⟩
  · refine wpAny_passesOwn hp (thn (T.done X rfl rfl rfl hc i pins s3 σ3 H3 X.xe I3 (stat fr3) st3 stop) fun r s4 ⟨hr, I4⟩ => ?_)
    subst hr
    exact wpAny_execs_nil ⟨σ3, H3, I4, qn⟩
  · refine wpAny_passesOwn hp (thn (T.item X rfl rfl rfl hc i pins s3 σ3 H3 X.xe I3 (stat fr3) st3 go) fun r s4 ⟨u, hr, h4⟩ => ?_)
    subst hr
    refine wpAny_passesOwn hp (thn h4 fun _ s5 ⟨x, H5, I5, r5, y5, st5, fr5⟩ => ?_)
    have I5' := I5.pinned (stat fr5) (T.obj _ _ st5)
    refine wpAny_passesOwn hp (thn (hg _ s5 σ3 H5 x u _ I5' r5 (step x H5 y5)) fun _ s6 ⟨σ6, H6, I6, q6⟩ => ?_)
    refine wpAny_passesOwn hp (thn (hb _ s6 σ6 H6 _ I6 q6) fun f s7 q7 => ?_)
    have again : ∀ {σ7 : St} {H7 : Hp}, Inv X (pins ++ pinsAt fp s5.heap) σ7 H7 s7 → N σ7 H7 → ∃ m, m < n ∧ ∃ i σ' H', Inv X pins σ' H' s7 ∧ tn i s7.heap ∧ (∀ b ∈ fp, H' b = none) ∧ W i m σ' H' := fun {σ7 H7} I7 n7 => by
      obtain ⟨m', hm, w7⟩ := hN σ7 H7 n7
      refine ⟨m', hm, i + 1, σ7, H7, I7.unpinned, T.keep _ _ _ st5 fun b hb o e => (I7.pin (b, o) (List.mem_append_right _ (List.mem_append_right _ (mem_pinsAt hb e)))).1, fun b hb => ?_, w7⟩
      obtain ⟨o, e, d⟩ := T.obj _ _ st5 b hb
      exact (I7.pin (b, o) (List.mem_append_right _ (List.mem_append_right _ (mem_pinsAt hb e)))).2.1
    cases f with
    | next => obtain ⟨σ7, H7, I7, n7⟩ := q7; exact again I7 n7
    | cont => obtain ⟨σ7, H7, I7, n7⟩ := q7; exact again I7 n7
    | brk => obtain ⟨σ7, H7, I7, q7⟩ := q7; exact ⟨σ7, H7, I7.unpinned, q7⟩
    | ret v => obtain ⟨x7, σ7, H7, I7, r7, q7⟩ := q7; exact ⟨x7, σ7, H7, I7.unpinned, r7, q7⟩
end

/-! ### the forms one uses -/
/-- over a list that the body leaves as it is -/
theorem for_list {K : PySem.W.Frag} {a : Addr} {xs : List V} {g : TG} {tb : TS} {D : Ends} {σ : St} {H : Hp} (Pv : Nat → St → Hp → Prop) (h0 : Pv 0 σ H) (hl : ∀ i σ H, i ≤ xs.length → Pv i σ H → SqL K H a xs)
    (hs : ∀ i x σ H, xs[i]? = some x → Pv i σ H → g x σ H fun σ2 H2 => tb { D with nx := Pv (i + 1), ct := Pv (i + 1), bk := D.nx } σ2 H2) (hd : ∀ σ H, Pv xs.length σ H → D.nx σ H) :
    ∃ W : Nat → Nat → St → Hp → Prop, (∃ m, W 0 m σ H) ∧ ∀ i m σ H, W i m σ H →
      ((Itl K a).stop i H ∧ D.nx σ H) ∨ ((Itl K a).go i H ∧ ∃ N : St → Hp → Prop, (∀ σ' H', N σ' H' → ∃ m', m' < m ∧ W (i + 1) m' σ' H') ∧ ∀ x H', (Itl K a).yld i H x H' → g x σ H' fun σ2 H2 => tb { D with nx := N, ct := N, bk := D.nx } σ2 H2) := by
  refine ⟨fun i m σ H => m = xs.length - i ∧ i ≤ xs.length ∧ Pv i σ H, ⟨xs.length, by simp, Nat.zero_le _, h0⟩, ?_⟩
  rintro i m σ H ⟨rfl, hi, p⟩
  have q := hl i σ H hi p
  by_cases hlt : i < xs.length
  · refine .inr ⟨⟨xs, xs[i], q, by simp [hlt]⟩, Pv (i + 1), fun σ' H' p' => ⟨xs.length - (i + 1), by omega, rfl, hlt, p'⟩, fun x H' y => ?_⟩
    obtain ⟨e, y⟩ := y
    subst e
    exact hs i x σ _ (y xs q) p
  · have e : i = xs.length := by omega
    subst e
    exact .inl ⟨⟨xs, q, Nat.le_refl _⟩, hd σ H p⟩
theorem for_tup {K : PySem.W.Frag} {a : Addr} {xs : List V} {g : TG} {tb : TS} {D : Ends} {σ : St} {H : Hp} (Pv : Nat → St → Hp → Prop) (h0 : Pv 0 σ H) (hl : ∀ i σ H, i ≤ xs.length → Pv i σ H → SqT K H a xs)
    (hs : ∀ i x σ H, xs[i]? = some x → Pv i σ H → g x σ H fun σ2 H2 => tb { D with nx := Pv (i + 1), ct := Pv (i + 1), bk := D.nx } σ2 H2) (hd : ∀ σ H, Pv xs.length σ H → D.nx σ H) :
    ∃ W : Nat → Nat → St → Hp → Prop, (∃ m, W 0 m σ H) ∧ ∀ i m σ H, W i m σ H →
      ((Itt K a).stop i H ∧ D.nx σ H) ∨ ((Itt K a).go i H ∧ ∃ N : St → Hp → Prop, (∀ σ' H', N σ' H' → ∃ m', m' < m ∧ W (i + 1) m' σ' H') ∧ ∀ x H', (Itt K a).yld i H x H' → g x σ H' fun σ2 H2 => tb { D with nx := N, ct := N, bk := D.nx } σ2 H2) := by
  refine ⟨fun i m σ H => m = xs.length - i ∧ i ≤ xs.length ∧ Pv i σ H, ⟨xs.length, by simp, Nat.zero_le _, h0⟩, ?_⟩
  rintro i m σ H ⟨rfl, hi, p⟩
  have q := hl i σ H hi p
  by_cases hlt : i < xs.length
  · refine .inr ⟨⟨xs, xs[i], q, by simp [hlt]⟩, Pv (i + 1), fun σ' H' p' => ⟨xs.length - (i + 1), by omega, rfl, hlt, p'⟩, fun x H' y => ?_⟩
    obtain ⟨e, y⟩ := y
    subst e
    exact hs i x σ _ (y xs q) p
  · have e : i = xs.length := by omega
    subst e
    exact .inl ⟨⟨xs, q, Nat.le_refl _⟩, hd σ H p⟩
theorem for_range {lo : Int} {n : Nat} {g : TG} {tb : TS} {D : Ends} {σ : St} {H : Hp} (Pv : Nat → St → Hp → Prop) (h0 : Pv 0 σ H)
    (hs : ∀ i σ H, i < n → Pv i σ H → g (.int (lo + i)) σ H fun σ2 H2 => tb { D with nx := Pv (i + 1), ct := Pv (i + 1), bk := D.nx } σ2 H2) (hd : ∀ σ H, Pv n σ H → D.nx σ H) :
    ∃ W : Nat → Nat → St → Hp → Prop, (∃ m, W 0 m σ H) ∧ ∀ i m σ H, W i m σ H →
      ((Itr lo n).stop i H ∧ D.nx σ H) ∨ ((Itr lo n).go i H ∧ ∃ N : St → Hp → Prop, (∀ σ' H', N σ' H' → ∃ m', m' < m ∧ W (i + 1) m' σ' H') ∧ ∀ x H', (Itr lo n).yld i H x H' → g x σ H' fun σ2 H2 => tb { D with nx := N, ct := N, bk := D.nx } σ2 H2) := by
  refine ⟨fun i m σ H => m = n - i ∧ i ≤ n ∧ Pv i σ H, ⟨n, by simp, Nat.zero_le _, h0⟩, ?_⟩
  rintro i m σ H ⟨rfl, hi, p⟩
  by_cases hlt : i < n
  · refine .inr ⟨hlt, Pv (i + 1), fun σ' H' p' => ⟨n - (i + 1), by omega, rfl, hlt, p'⟩, fun x H' y => ?_⟩
    obtain ⟨e, y⟩ := y
    subst e y
    exact hs i σ _ hlt p
  · have e : i = n := by omega
    subst e
    exact .inl ⟨Nat.le_refl _, hd σ H p⟩
/-- while, by a word and a measure of the state -/
theorem while_by {c : TT} {tb : TS} {D : Ends} {σ : St} {H : Hp} (Pv : St → Hp → Prop) (μ : St → Hp → Nat) (h0 : Pv σ H)
    (hs : ∀ σ H, Pv σ H → c σ H fun b H1 => if b = true then tb { D with nx := fun σ' H' => Pv σ' H' ∧ μ σ' H' < μ σ H, ct := fun σ' H' => Pv σ' H' ∧ μ σ' H' < μ σ H, bk := D.nx } σ H1 else D.nx σ H1)
    (mono : ∀ σ H Q Q', (∀ b H1, Q b H1 → Q' b H1) → c σ H Q → c σ H Q') : tWhile c tb D σ H := by
  refine ⟨fun m σ H => m = μ σ H ∧ Pv σ H, ⟨_, rfl, h0⟩, ?_⟩
  rintro m σ H ⟨rfl, p⟩
  refine mono σ H _ _ (fun b H1 q => ?_) (hs σ H p)
  cases b with
  | true => exact ⟨_, fun σ' H' ⟨p', l⟩ => ⟨_, l, rfl, p'⟩, q⟩
  | false => exact q
end L2

namespace L2
open PySem PySem.Spec PyProof.Rows

abbrev R2 := V → V → Hp → VK → Prop
/-- a two-place operation on values: f is binaryOp op, inplaceOp op or compareOp op -/
def OpR (X : Cx) (f : Value → Value → Sem Value) (r : R2) : Prop :=
  ∀ (pins : List (Addr × Obj)) (s : Shared) (σ : St) (H : Hp) (x y : V) (v u : Value) (Q : VK), Inv X pins σ H s → RelV x v → RelV y u → r x y H Q →
    wpAny (model X.prog X.w) X.A (f v u) (EP X pins σ Q) X.xe s
/-- a one-place operation -/
def UnR (X : Cx) (f : Value → Sem Value) (r : V → Hp → VK → Prop) : Prop :=
  ∀ (pins : List (Addr × Obj)) (s : Shared) (σ : St) (H : Hp) (x : V) (v : Value) (Q : VK), Inv X pins σ H s → RelV x v → r x H Q →
    wpAny (model X.prog X.w) X.A (f v) (EP X pins σ Q) X.xe s
/-- a call of a value that is known (a builtin, a type) with values -/
def CallR (X : Cx) (f : Value) (r : List V → Hp → VK → Prop) : Prop :=
  ∀ (pins : List (Addr × Obj)) (s : Shared) (σ : St) (H : Hp) (xs : List V) (us : List Value) (Q : VK), Inv X pins σ H s → Vals xs us → r xs H Q →
    wpAny (model X.prog X.w) X.A (call f us) (EP X pins σ Q) X.xe s
/-- a value's truth -/
def TruR (X : Cx) (r : V → Hp → (Bool → Hp → Prop) → Prop) : Prop :=
  ∀ (pins : List (Addr × Obj)) (s : Shared) (σ : St) (H : Hp) (x : V) (v : Value) (Q : Bool → Hp → Prop), Inv X pins σ H s → RelV x v → r x H Q →
    wpAny (model X.prog X.w) X.A (truthy v) (TP X pins σ Q) X.xe s

def tOp (r : R2) (ta tb : TE) : TE := fun σ H Q => ta σ H fun x H1 => tb σ H1 fun y H2 => r x y H2 Q
def tUn (r : V → Hp → VK → Prop) (ta : TE) : TE := fun σ H Q => ta σ H fun x H1 => r x H1 Q
/-- ints in, under C, and a value out -/
def rI (C : Int → Int → Prop) (g : Int → Int → V) : R2 := fun x y H Q => ∃ i j, x = .int i ∧ y = .int j ∧ C i j ∧ Q (g i j) H
def rI0 (g : Int → Int → V) : R2 := fun x y H Q => ∃ i j, x = .int i ∧ y = .int j ∧ Q (g i j) H
def rU (g : Int → V) : V → Hp → VK → Prop := fun x H Q => ∃ i, x = .int i ∧ Q (g i) H

section
variable {X : Cx} {a b c : Expr} {ta tb tc : TE} {pos : Pos}

theorem binT (ha : PE X a ta) (hb : PE X b tb) {pins : List (Addr × Obj)} {s : Shared} {σ : St} {H : Hp} {R : V → V → Hp → Prop} (I : Inv X pins σ H s)
    (h : ta σ H fun x H1 => tb σ H1 fun y H2 => R x y H2) {Q : Value → Shared → Prop} {f : Value → Value → Sem Value}
    (hf : ∀ v u s2 x y H2, Inv X pins σ H2 s2 → RelV x v → RelV y u → R x y H2 → wpAny (model X.prog X.w) X.A (f v u) Q X.xe s2) :
    wpAny (model X.prog X.w) X.A (eval a X.env) (fun v s₁ => wpAny (model X.prog X.w) X.A (eval b X.env) (fun u s₂ => wpAny (model X.prog X.w) X.A (f v u) Q X.xe s₂) X.xe s₁) X.xe s := by
  refine thn (ha pins s σ H _ I h) fun v s1 ⟨x, H1, I1, r1, q1⟩ => ?_
  refine thn (hb pins s1 σ H1 _ I1 q1) fun u s2 ⟨y, H2, I2, r2, q2⟩ => ?_
  exact hf v u s2 x y H2 I2 r1 r2 q2

theorem pe_op {op : Operator} {r : R2} (ho : OpR X (binaryOp op) r) (ha : PE X a ta) (hb : PE X b tb) : PE X (.BinOp a op b pos) (tOp r ta tb) := by
  intro pins s σ H Q I h
  exact wpAny_BinOp (binT ha hb I h fun v u s2 x y H2 I2 rx ry q => ho pins s2 σ H2 x y v u Q I2 rx ry q)
theorem pe_un {op : UnaryOp} {r : V → Hp → VK → Prop} (ho : UnR X (unaryOp op) r) (ha : PE X a ta) : PE X (.UnaryOp op a pos) (tUn r ta) := by
  intro pins s σ H Q I h
  exact UnaryOp_ (thn (ha pins s σ H _ I h) fun v s1 ⟨x, H1, I1, r1, q1⟩ => ho pins s1 σ H1 x v Q I1 r1 q1)
/-- a op= e at a name: the name's slot i -/
theorem augR {op : Operator} {r : R2} (ho : OpR X (inplaceOp op) r) {pins : List (Addr × Obj)} {s : Shared} {σ : St} {H : Hp} {x y : V} {v u : Value} {Q : VK} (I : Inv X pins σ H s)
    (rx : RelV x v) (ry : RelV y u) (q : r x y H Q) : wpAny (model X.prog X.w) X.A (inplaceOp op v u) (EP X pins σ Q) X.xe s := ho pins s σ H x y v u Q I rx ry q

/-! ### ints -/
theorem opI {f : Value → Value → Sem Value} {C : Int → Int → Prop} {g : Int → Int → Int}
    (rule : ∀ (i j : Int) (t u : Tok) (s : Shared) (Q : Value → Shared → Prop) (E : Value → Shared → Prop), C i j → Q (.int (g i j) s.toks) { s with toks := s.toks + 1 } → wpAny (model X.prog X.w) X.A (f (.int i t) (.int j u)) Q E s) :
    OpR X f (rI C fun i j => .int (g i j)) := by
  intro pins s σ H x y v u Q I rx ry h
  obtain ⟨i, j, rfl, rfl, hc, q⟩ := h
  obtain ⟨t, rfl⟩ := rx
  obtain ⟨t', rfl⟩ := ry
  exact rule i j t t' s _ _ hc ⟨.int (g i j), H, I.tok _, ⟨_, rfl⟩, q⟩
theorem opI0 {f : Value → Value → Sem Value} {g : Int → Int → Int}
    (rule : ∀ (i j : Int) (t u : Tok) (s : Shared) (Q : Value → Shared → Prop) (E : Value → Shared → Prop), Q (.int (g i j) s.toks) { s with toks := s.toks + 1 } → wpAny (model X.prog X.w) X.A (f (.int i t) (.int j u)) Q E s) :
    OpR X f (rI0 fun i j => .int (g i j)) := by
  intro pins s σ H x y v u Q I rx ry h
  obtain ⟨i, j, rfl, rfl, q⟩ := h
  obtain ⟨t, rfl⟩ := rx
  obtain ⟨t', rfl⟩ := ry
  exact rule i j t t' s _ _ ⟨.int (g i j), H, I.tok _, ⟨_, rfl⟩, q⟩
theorem opB0 {f : Value → Value → Sem Value} {g : Int → Int → Bool}
    (rule : ∀ (i j : Int) (t u : Tok) (s : Shared) (Q : Value → Shared → Prop) (E : Value → Shared → Prop), Q (.bool (g i j)) s → wpAny (model X.prog X.w) X.A (f (.int i t) (.int j u)) Q E s) :
    OpR X f (rI0 fun i j => .bl (g i j)) := by
  intro pins s σ H x y v u Q I rx ry h
  obtain ⟨i, j, rfl, rfl, q⟩ := h
  obtain ⟨t, rfl⟩ := rx
  obtain ⟨t', rfl⟩ := ry
  exact rule i j t t' s _ _ ⟨.bl (g i j), H, I, rfl, q⟩

def CDiv (i j : Int) : Prop := 0 < j ∧ j < 1073741824
def CDivN (i j : Int) : Prop := j ≠ 0 ∧ j.natAbs < 1073741824
def CPow (i j : Int) : Prop := 0 ≤ j ∧ j ≤ 1000000 ∧ i.natAbs < 2 ^ 64
def CMul (i j : Int) : Prop := (-(2 ^ 64) < i ∧ i < 2 ^ 64) ∨ (-(2 ^ 64) < j ∧ j < 2 ^ 64)
theorem CMul.ok {i j : Int} (h : CMul i j) : IntMulOk i j := by
  rcases h with ⟨h1, h2⟩ | ⟨h1, h2⟩
  · exact .of_left (intBits_le_64 h1 h2)
  · exact .of_right (intBits_le_64 h1 h2)
theorem two_pow_nn (k : Nat) : (0 : Int) ≤ 2 ^ k := by
  rw [two_pow_cast]
  exact Int.natCast_nonneg _

theorem op_add : OpR X (binaryOp .Add) (rI0 fun i j => .int (i + j)) := opI0 fun _ _ _ _ _ _ _ q => add_int q
theorem op_sub : OpR X (binaryOp .Sub) (rI0 fun i j => .int (i - j)) := opI0 fun _ _ _ _ _ _ _ q => sub_int q
theorem op_mul : OpR X (binaryOp .Mult) (rI CMul fun i j => .int (i * j)) := opI fun _ _ _ _ _ _ _ hc q => mul_int q hc.ok
/-- // by a positive divisor -/
theorem op_fdiv : OpR X (binaryOp .FloorDiv) (rI CDiv fun i j => .int (i / j)) := opI fun i j _ _ _ _ _ hc q => by
  have h1 : (0 : Int) < j := hc.1
  have h2 : j < 1073741824 := hc.2
  exact floordiv_int (by omega) (by rw [Int.fdiv_eq_ediv_of_nonneg i (by omega)]; exact q) (.inl (PyProof.noPylong_small (by omega)))
theorem op_fdivN : OpR X (binaryOp .FloorDiv) (rI CDivN fun i j => .int (i.fdiv j)) := opI fun _ _ _ _ _ _ _ hc q => floordiv_int hc.1 q (.inl (PyProof.noPylong_small hc.2))
/-- % by a positive divisor of any size -/
theorem op_mod : OpR X (binaryOp .Mod) (rI (fun _ j => 0 < j) fun i j => .int (i % j)) := opI fun i j _ _ _ _ _ hc q => by
  have h1 : (0 : Int) < j := hc
  exact mod_int' (by omega) (by rw [Int.fmod_eq_emod_of_nonneg i (by omega)]; exact q)
theorem op_modN : OpR X (binaryOp .Mod) (rI (fun _ j => j ≠ 0) fun i j => .int (i.fmod j)) := opI fun _ _ _ _ _ _ _ hc q => mod_int' hc q
theorem op_pow : OpR X (binaryOp .Pow) (rI CPow fun i j => .int (i ^ j.toNat)) := opI fun _ _ _ _ _ _ _ hc q => pow_int_small hc.1 hc.2.1 hc.2.2 q
theorem op_shl : OpR X (binaryOp .LShift) (rI CPow fun i j => .int (i * 2 ^ j.toNat)) := opI fun _ _ _ _ _ _ _ hc q => lshift_int_small hc.1 hc.2.1 hc.2.2 q
theorem op_shr : OpR X (binaryOp .RShift) (rI (fun _ j => 0 ≤ j) fun i j => .int (i / 2 ^ j.toNat)) := opI fun i j _ _ _ _ _ hc q =>
  rshift_int hc (by rw [Int.fdiv_eq_ediv_of_nonneg i (two_pow_nn _)]; exact q)
theorem op_and : OpR X (binaryOp .BitAnd) (rI0 fun i j => .int (Builtin.bitAnd i j)) := opI0 fun _ _ _ _ _ _ _ q => and_int q
theorem op_or : OpR X (binaryOp .BitOr) (rI0 fun i j => .int (Builtin.bitOr i j)) := opI0 fun _ _ _ _ _ _ _ q => or_int q
theorem op_xor : OpR X (binaryOp .BitXor) (rI0 fun i j => .int (Builtin.bitXor i j)) := opI0 fun _ _ _ _ _ _ _ q => xor_int q

theorem iop_add : OpR X (inplaceOp .Add) (rI0 fun i j => .int (i + j)) := opI0 fun _ _ _ _ _ _ _ q => iadd_int q
theorem iop_sub : OpR X (inplaceOp .Sub) (rI0 fun i j => .int (i - j)) := opI0 fun _ _ _ _ _ _ _ q => isub_int q
theorem iop_mul : OpR X (inplaceOp .Mult) (rI CMul fun i j => .int (i * j)) := opI fun _ _ _ _ _ _ _ hc q => imul_int q hc.ok
theorem iop_fdiv : OpR X (inplaceOp .FloorDiv) (rI CDiv fun i j => .int (i / j)) := opI fun i j _ _ _ _ _ hc q => by
  have h1 : (0 : Int) < j := hc.1
  have h2 : j < 1073741824 := hc.2
  exact ifloordiv_int (by omega) (by rw [Int.fdiv_eq_ediv_of_nonneg i (by omega)]; exact q) (.inl (PyProof.noPylong_small (by omega)))
theorem iop_mod : OpR X (inplaceOp .Mod) (rI (fun _ j => 0 < j) fun i j => .int (i % j)) := opI fun i j _ _ _ _ _ hc q => by
  have h1 : (0 : Int) < j := hc
  exact imod_int (by omega) (by rw [Int.fmod_eq_emod_of_nonneg i (by omega)]; exact q)
theorem iop_shl : OpR X (inplaceOp .LShift) (rI CPow fun i j => .int (i * 2 ^ j.toNat)) := opI fun _ _ _ _ _ _ _ hc q => ilshift_int_small hc.1 hc.2.1 hc.2.2 q
theorem iop_shr : OpR X (inplaceOp .RShift) (rI (fun _ j => 0 ≤ j) fun i j => .int (i / 2 ^ j.toNat)) := opI fun i j _ _ _ _ _ hc q =>
  irshift_int hc (by rw [Int.fdiv_eq_ediv_of_nonneg i (two_pow_nn _)]; exact q)
theorem iop_and : OpR X (inplaceOp .BitAnd) (rI0 fun i j => .int (Builtin.bitAnd i j)) := opI0 fun _ _ _ _ _ _ _ q => iand_int q
theorem iop_or : OpR X (inplaceOp .BitOr) (rI0 fun i j => .int (Builtin.bitOr i j)) := opI0 fun _ _ _ _ _ _ _ q => ior_int q
theorem iop_xor : OpR X (inplaceOp .BitXor) (rI0 fun i j => .int (Builtin.bitXor i j)) := opI0 fun _ _ _ _ _ _ _ q => ixor_int q

theorem unI {f : Value → Sem Value} {g : Int → Int}
    (rule : ∀ (i : Int) (t : Tok) (s : Shared) (Q : Value → Shared → Prop) (E : Value → Shared → Prop), Q (.int (g i) s.toks) { s with toks := s.toks + 1 } → wpAny (model X.prog X.w) X.A (f (.int i t)) Q E s) :
    UnR X f (rU fun i => .int (g i)) := by
  intro pins s σ H x v Q I rx h
  obtain ⟨i, rfl, q⟩ := h
  obtain ⟨t, rfl⟩ := rx
  exact rule i t s _ _ ⟨.int (g i), H, I.tok _, ⟨_, rfl⟩, q⟩
theorem un_neg : UnR X (unaryOp .USub) (rU fun i => .int (-i)) := unI fun _ _ _ _ _ q => neg_int q
theorem un_inv : UnR X (unaryOp .Invert) (rU fun i => .int (Builtin.bitNot i)) := unI fun _ _ _ _ _ q => invert_int q

/-! ### bools among ints: n += (a < b) -/
theorem op_add_ib : OpR X (binaryOp .Add) (fun x y H Q => ∃ i k, x = .int i ∧ y = .bl k ∧ Q (.int (i + b2i k)) H) := by
  intro pins s σ H x y v u Q I rx ry h
  obtain ⟨i, k, rfl, rfl, q⟩ := h
  obtain ⟨t, rfl⟩ := rx
  cases ry
  exact add_int_bool ⟨.int (i + b2i k), H, I.tok _, ⟨_, rfl⟩, q⟩
end

/-! ### comparisons -/
/-- the scalars that == tells apart as data does -/
def scal : V → V → Bool
  | .non, .non => true | .non, .int _ => true | .int _, .non => true | .non, .bl _ => true | .bl _, .non => true | .non, .str _ => true | .str _, .non => true
  | .int _, .int _ => true | .bl _, .bl _ => true | .str _, .str _ => true | .byt _, .byt _ => true
  | .int _, .str _ => true | .str _, .int _ => true | .bl _, .str _ => true | .str _, .bl _ => true
  | _, _ => false
def rEq : R2 := fun x y H Q => scal x y = true ∧ Q (.bl (decide (x = y))) H
def rNe : R2 := fun x y H Q => scal x y = true ∧ Q (.bl (!decide (x = y))) H

theorem dec_int {i j : Int} : decide (V.int i = V.int j) = (i == j) := by
  rw [Bool.eq_iff_iff]
  simp
theorem dec_bl {i j : Bool} : decide (V.bl i = V.bl j) = (i == j) := by
  rw [Bool.eq_iff_iff]
  simp
theorem dec_str {i j : Str} : decide (V.str i = V.str j) = (i == j) := by
  rw [Bool.eq_iff_iff]
  simp
theorem dec_byt {i j : Array UInt8} : decide (V.byt i = V.byt j) = (i.toList == j.toList) := by
  rw [Bool.eq_iff_iff]
  cases i
  cases j
  simp

section
variable {X : Cx} {a b c : Expr} {ta tb tc : TE} {pos : Pos}
theorem fin_bl {pins : List (Addr × Obj)} {σ : St} {H : Hp} {s : Shared} {Q : VK} {k k' : Bool} (I : Inv X pins σ H s) (q : Q (.bl k) H) (e : k = k') : EP X pins σ Q (.bool k') s := by
  subst e
  exact ⟨.bl k, H, I, rfl, q⟩
theorem op_eq : OpR X (compareOp .Eq) rEq := by
  intro pins s σ H x y v u Q I rx ry h
  obtain ⟨hs, q⟩ := h
  cases x with
  | non =>
    cases rx
    cases y with
    | non => cases ry; exact PySem.EqNone.eq_none_none (fin_bl I q (by simp))
    | bl j => cases ry; exact PySem.EqNone.eq_none_bool (fin_bl I q (by simp))
    | int j => obtain ⟨t', rfl⟩ := ry; exact PySem.EqNone.eq_none_int (fin_bl I q (by simp))
    | str j => obtain ⟨t', rfl⟩ := ry; exact PySem.EqNone.eq_none_str (fin_bl I q (by simp))
    | _ => exact absurd (show false = true from hs) Bool.false_ne_true
  | bl i =>
    cases rx
    cases y with
    | non => cases ry; exact PySem.EqNone.eq_bool_none (fin_bl I q (by simp))
    | bl j => cases ry; exact eq_bool (fin_bl I q dec_bl)
    | str j => obtain ⟨t', rfl⟩ := ry; exact PySem.EqMixed.eq_bool_str (fin_bl I q (by simp))
    | _ => exact absurd (show false = true from hs) Bool.false_ne_true
  | int i =>
    obtain ⟨t, rfl⟩ := rx
    cases y with
    | non => cases ry; exact PySem.EqNone.eq_int_none (fin_bl I q (by simp))
    | int j => obtain ⟨t', rfl⟩ := ry; exact eq_int (fin_bl I q dec_int)
    | str j => obtain ⟨t', rfl⟩ := ry; exact PySem.EqMixed.eq_int_str (fin_bl I q (by simp))
    | _ => exact absurd (show false = true from hs) Bool.false_ne_true
  | str i =>
    obtain ⟨t, rfl⟩ := rx
    cases y with
    | non => cases ry; exact PySem.EqNone.eq_str_none (fin_bl I q (by simp))
    | bl j => cases ry; exact PySem.EqMixed.eq_str_bool (fin_bl I q (by simp))
    | int j => obtain ⟨t', rfl⟩ := ry; exact PySem.EqMixed.eq_str_int (fin_bl I q (by simp))
    | str j => obtain ⟨t', rfl⟩ := ry; exact eq_str (fin_bl I q dec_str)
    | _ => exact absurd (show false = true from hs) Bool.false_ne_true
  | byt i =>
    obtain ⟨t, rfl⟩ := rx
    cases y with
    | byt j => obtain ⟨t', rfl⟩ := ry; exact PySem.W.eq_bytes (fin_bl I q dec_byt)
    | _ => exact absurd (show false = true from hs) Bool.false_ne_true
  | _ => cases y <;> exact absurd (show false = true from hs) Bool.false_ne_true
theorem op_ne : OpR X (compareOp .NotEq) rNe := by
  intro pins s σ H x y v u Q I rx ry h
  obtain ⟨hs, q⟩ := h
  cases x with
  | non =>
    cases rx
    cases y with
    | non => cases ry; exact PySem.EqNone.ne_none_none (fin_bl I q (by simp))
    | bl j => cases ry; exact PySem.EqNone.ne_none_bool (fin_bl I q (by simp))
    | int j => obtain ⟨t', rfl⟩ := ry; exact PySem.EqNone.ne_none_int (fin_bl I q (by simp))
    | str j => obtain ⟨t', rfl⟩ := ry; exact PySem.EqNone.ne_none_str (fin_bl I q (by simp))
    | _ => exact absurd (show false = true from hs) Bool.false_ne_true
  | bl i =>
    cases rx
    cases y with
    | non => cases ry; exact PySem.EqNone.ne_bool_none (fin_bl I q (by simp))
    | bl j => cases ry; exact ne_bool (fin_bl I q (congrArg not dec_bl))
    | str j => obtain ⟨t', rfl⟩ := ry; exact PySem.EqMixed.ne_bool_str (fin_bl I q (by simp))
    | _ => exact absurd (show false = true from hs) Bool.false_ne_true
  | int i =>
    obtain ⟨t, rfl⟩ := rx
    cases y with
    | non => cases ry; exact PySem.EqNone.ne_int_none (fin_bl I q (by simp))
    | int j => obtain ⟨t', rfl⟩ := ry; exact ne_int (fin_bl I q (congrArg not dec_int))
    | str j => obtain ⟨t', rfl⟩ := ry; exact PySem.EqMixed.ne_int_str (fin_bl I q (by simp))
    | _ => exact absurd (show false = true from hs) Bool.false_ne_true
  | str i =>
    obtain ⟨t, rfl⟩ := rx
    cases y with
    | non => cases ry; exact PySem.EqNone.ne_str_none (fin_bl I q (by simp))
    | bl j => cases ry; exact PySem.EqMixed.ne_str_bool (fin_bl I q (by simp))
    | int j => obtain ⟨t', rfl⟩ := ry; exact PySem.EqMixed.ne_str_int (fin_bl I q (by simp))
    | str j => obtain ⟨t', rfl⟩ := ry; exact ne_str (fin_bl I q (congrArg not dec_str))
    | _ => exact absurd (show false = true from hs) Bool.false_ne_true
  | byt i =>
    obtain ⟨t, rfl⟩ := rx
    cases y with
    | byt j => obtain ⟨t', rfl⟩ := ry; exact PySem.W.ne_bytes (fin_bl I q (congrArg not dec_byt))
    | _ => exact absurd (show false = true from hs) Bool.false_ne_true
  | _ => cases y <;> exact absurd (show false = true from hs) Bool.false_ne_true

theorem op_lt : OpR X (compareOp .Lt) (rI0 fun i j => .bl (decide (i < j))) := opB0 fun _ _ _ _ _ _ _ q => lt_int q
theorem op_le : OpR X (compareOp .LtE) (rI0 fun i j => .bl (decide (i ≤ j))) := opB0 fun _ _ _ _ _ _ _ q => le_int q
theorem op_gt : OpR X (compareOp .Gt) (rI0 fun i j => .bl (decide (j < i))) := opB0 fun _ _ _ _ _ _ _ q => gt_int q
theorem op_ge : OpR X (compareOp .GtE) (rI0 fun i j => .bl (decide (j ≤ i))) := opB0 fun _ _ _ _ _ _ _ q => ge_int q
theorem op_lt_str : OpR X (compareOp .Lt) (fun x y H Q => ∃ i j, x = .str i ∧ y = .str j ∧ Q (.bl (decide (i.cps.toList < j.cps.toList))) H) := by
  intro pins s σ H x y v u Q I rx ry h
  obtain ⟨i, j, rfl, rfl, q⟩ := h
  obtain ⟨t, rfl⟩ := rx
  obtain ⟨t', rfl⟩ := ry
  exact lt_str (fin_bl I q rfl)
/-- the one string within the other -/
theorem op_in_str : OpR X (compareOp .In) (fun x y H Q => ∃ i j, x = .str i ∧ y = .str j ∧ Q (.bl (!(Builtin.Str.occurrences j i 0 j.length 1).isEmpty)) H) := by
  intro pins s σ H x y v u Q I rx ry h
  obtain ⟨i, j, rfl, rfl, q⟩ := h
  obtain ⟨t, rfl⟩ := rx
  obtain ⟨t', rfl⟩ := ry
  exact in_str (fin_bl I q rfl)

/-- is None, is not None: the right side a value none -/
theorem op_isN : OpR X (compareOp .Is) (fun x y H Q => y = .non ∧ Q (.bl (decide (x = .non))) H) := by
  intro pins s σ H x y v u Q I rx ry h
  obtain ⟨rfl, q⟩ := h
  cases ry
  refine is_none_gen (fin_bl I q ?_)
  cases x <;> first
    | (cases rx; rfl)
    | (obtain ⟨t, rfl⟩ := rx; rfl)
theorem op_notN : OpR X (compareOp .IsNot) (fun x y H Q => y = .non ∧ Q (.bl (!decide (x = .non))) H) := by
  intro pins s σ H x y v u Q I rx ry h
  obtain ⟨rfl, q⟩ := h
  cases ry
  refine isnot_none_gen (fin_bl I q ?_)
  cases x <;> first
    | (cases rx; rfl)
    | (obtain ⟨t, rfl⟩ := rx; rfl)

theorem op_notin_str : OpR X (compareOp .NotIn) (fun x y H Q => ∃ i j, x = .str i ∧ y = .str j ∧ Q (.bl (!(!(Builtin.Str.occurrences j i 0 j.length 1).isEmpty))) H) := by
  intro pins s σ H x y v u Q I rx ry h
  obtain ⟨i, j, rfl, rfl, q⟩ := h
  obtain ⟨t, rfl⟩ := rx
  obtain ⟨t', rfl⟩ := ry
  exact notIn_str (fin_bl I q rfl)
/-- is, is not of two objects that are tracked lists or instances -/
def isObj : HO → Bool
  | .lst _ => true
  | .ins _ _ _ => true
  | _ => false
theorem obj_there {pins : List (Addr × Obj)} {s : Shared} {σ : St} {H : Hp} {a : Addr} {o : HO} (I : Inv X pins σ H s) (h : H a = some o) (p : isObj o = true) : ∃ ob, s.heap.get? a = some ob ∧ ob.cls ≠ .type "tuple" := by
  cases o with
  | lst xs =>
    obtain ⟨_, its, n, _, e⟩ : xs.length ≤ sizeLine ∧ ∃ (its : List Value) (n : Nat), Vals xs its ∧ s.heap.get? a = some { cls := .type "list", data := .seq its.toArray n } := I.hok a _ h
    exact ⟨_, e, (by show Value.type "list" ≠ .type "tuple"; decide +kernel)⟩
  | ins C dx fs =>
    have x := I.hok a _ h
    obtain ⟨_, _, _, e, _⟩ := x
    exact ⟨_, e, (by show Value.ref C ≠ .type "tuple"; exact fun z => by cases z)⟩
  | _ => exact absurd (show false = true from p) Bool.false_ne_true
theorem op_is_ref : OpR X (compareOp .Is) (fun x y H Q => ∃ a b oa ob, x = .ref a ∧ y = .ref b ∧ H a = some oa ∧ isObj oa = true ∧ H b = some ob ∧ isObj ob = true ∧ Q (.bl (decide (a = b))) H) := by
  intro pins s σ H x y v u Q I rx ry h
  obtain ⟨a, b, oa, ob, rfl, rfl, ha, pa, hb, pb, q⟩ := h
  cases rx
  cases ry
  obtain ⟨o1, e1, n1⟩ := obj_there I ha pa
  obtain ⟨o2, e2, _⟩ := obj_there I hb pb
  by_cases z : a = b
  · subst z
    exact wpAny_is_ref_self (fin_bl I q (by simp))
  · exact wpAny_is_ref_other z e1 e2 n1 (fin_bl I q (by simp [z]))
theorem op_isnot_ref : OpR X (compareOp .IsNot) (fun x y H Q => ∃ a b oa ob, x = .ref a ∧ y = .ref b ∧ H a = some oa ∧ isObj oa = true ∧ H b = some ob ∧ isObj ob = true ∧ Q (.bl (!decide (a = b))) H) := by
  intro pins s σ H x y v u Q I rx ry h
  obtain ⟨a, b, oa, ob, rfl, rfl, ha, pa, hb, pb, q⟩ := h
  cases rx
  cases ry
  obtain ⟨o1, e1, n1⟩ := obj_there I ha pa
  obtain ⟨o2, e2, _⟩ := obj_there I hb pb
  by_cases z : a = b
  · subst z
    exact wpAny_isNot_ref_self (fin_bl I q (by simp))
  · exact wpAny_isNot_ref_other z e1 e2 n1 (fin_bl I q (by simp [z]))

/-- two rules for one operation: by cases -/
theorem OpR.or {f : Value → Value → Sem Value} {r r' : R2} (h : OpR X f r) (h' : OpR X f r') : OpR X f (fun x y H Q => r x y H Q ∨ r' x y H Q) := by
  intro pins s σ H x y v u Q I rx ry q
  rcases q with q | q
  · exact h pins s σ H x y v u Q I rx ry q
  · exact h' pins s σ H x y v u Q I rx ry q

theorem nomark (b : Expr) {op : CmpOp} (h : op ≠ .In := by decide) (h2 : op ≠ .NotIn := by decide) : behindInMarks op b = false := by
  have e1 : (op == CmpOp.In) = false := by cases op <;> first | rfl | exact absurd rfl h
  have e2 : (op == CmpOp.NotIn) = false := by cases op <;> first | rfl | exact absurd rfl h2
  cases b <;> simp [behindInMarks, e1, e2]
/-- a comparison as a value; hm: nomark b, or (for in, not in) by with_unfolding_all rfl -/
theorem pe_cmpR {op : CmpOp} {r : R2} (ho : OpR X (compareOp op) r) (ha : PE X a ta) (hb : PE X b tb) (hm : behindInMarks op b = false) : PE X (.Compare a [op] [b] pos) (tOp r ta tb) := by
  intro pins s σ H Q I h
  exact wpAny_Compare1 (binT ha hb I h fun v u s2 x y H2 I2 rx ry q => ho pins s2 σ H2 x y v u Q I2 rx ry q) hm
/-- a reading of a value as a test -/
def tTest (t : TE) : TT := fun σ H Q => t σ H fun x H' => ∃ k, x = .bl k ∧ Q k H'
theorem pt_cmpR {op : CmpOp} {r : R2} (ho : OpR X (compareOp op) r) (ha : PE X a ta) (hb : PE X b tb) (hm : behindInMarks op b = false) : PT X (.Compare a [op] [b] pos) (tTest (tOp r ta tb)) := by
  intro pins s σ H Q I h
  refine wpAny_isTrue_Compare1 (thn (ha pins s σ H _ I h) fun v s1 ⟨x, H1, I1, r1, q1⟩ => thn (hb pins s1 σ H1 _ I1 q1) fun u s2 ⟨y, H2, I2, r2, q2⟩ =>
    thn (ho pins s2 σ H2 x y v u _ I2 r1 r2 q2) fun c s3 ⟨z, H3, I3, r3, k, e, q3⟩ => ?_) hm
  subst e
  cases r3
  exact wpAny_truthy_bool ⟨H3, I3, q3⟩
/-- a op1 b op2 c -/
def tChain (r r' : R2) (ta tb tc : TE) : TE := fun σ H Q => ta σ H fun x H1 => tb σ H1 fun y H2 => r x y H2 fun z H3 => ∃ k, z = .bl k ∧
  (if k = true then tc σ H3 fun w' H4 => r' y w' H4 Q else Q (.bl false) H3)
theorem pe_chain {op op' : CmpOp} {r r' : R2} (ho : OpR X (compareOp op) r) (ho' : OpR X (compareOp op') r') (ha : PE X a ta) (hb : PE X b tb) (hc : PE X c tc)
    (hm : lastMarks [op, op'] [b, c] = false := by with_unfolding_all rfl) : PE X (.Compare a [op, op'] [b, c] pos) (tChain r r' ta tb tc) := by
  intro pins s σ H Q I h
  refine Compare_chain (thn (ha pins s σ H _ I h) fun v s1 ⟨x, H1, I1, r1, q1⟩ => chain_link (thn (hb pins s1 σ H1 _ I1 q1) fun u s2 ⟨y, H2, I2, r2, q2⟩ =>
    thn (ho pins s2 σ H2 x y v u _ I2 r1 r2 q2) fun d s3 ⟨z, H3, I3, r3, k, e, q3⟩ => ?_)) hm
  subst e
  cases r3
  refine wpAny_truthy_bool ?_
  cases k with
  | false => exact ite_ff ⟨.bl false, H3, I3, rfl, q3⟩
  | true => exact ite_tt (chain_last (thn (hc pins s3 σ H3 _ I3 q3) fun w' s4 ⟨z', H4, I4, r4, q4⟩ => ho' pins s4 σ H4 y z' u w' Q I4 r2 r4 q4))
theorem pt_chain {op op' : CmpOp} {r r' : R2} (ho : OpR X (compareOp op) r) (ho' : OpR X (compareOp op') r') (ha : PE X a ta) (hb : PE X b tb) (hc : PE X c tc)
    (hm : lastMarks [op, op'] [b, c] = false := by with_unfolding_all rfl) : PT X (.Compare a [op, op'] [b, c] pos) (tTest (tChain r r' ta tb tc)) := by
  intro pins s σ H Q I h
  refine isTrue_chain (thn (ha pins s σ H _ I h) fun v s1 ⟨x, H1, I1, r1, q1⟩ => test_link (thn (hb pins s1 σ H1 _ I1 q1) fun u s2 ⟨y, H2, I2, r2, q2⟩ =>
    thn (ho pins s2 σ H2 x y v u _ I2 r1 r2 q2) fun d s3 ⟨z, H3, I3, r3, k, e, q3⟩ => ?_)) hm
  subst e
  cases r3
  refine wpAny_truthy_bool ?_
  cases k with
  | false =>
    obtain ⟨k', e', q'⟩ := q3
    cases e'
    exact ite_ff ⟨H3, I3, q'⟩
  | true =>
    refine ite_tt (test_last (thn (hc pins s3 σ H3 _ I3 q3) fun w' s4 ⟨z', H4, I4, r4, q4⟩ => thn (ho' pins s4 σ H4 y z' u w' _ I4 r2 r4 q4) fun d' s5 ⟨z2, H5, I5, r5, k2, e2, q5⟩ => ?_))
    subst e2
    cases r5
    exact wpAny_truthy_bool ⟨H5, I5, q5⟩

/-! ### truth -/
/-- a value's truth by the abstract heap -/
def TruV (K : PySem.W.Frag) (x : V) (H : Hp) (k : Bool) : Prop :=
  match x with
  | .non => k = false
  | .bl b => k = b
  | .int i => k = (i != 0)
  | .str y => y.length ≤ sizeLine ∧ k = ((y.length : Int) != 0)
  | .byt y => y.size ≤ sizeLine ∧ k = ((y.size : Int) != 0)
  | .ref p => (∃ xs, SqL K H p xs ∧ k = !xs.isEmpty) ∨ (∃ xs, SqT K H p xs ∧ k = !xs.isEmpty) ∨ ∃ kvs, H p = some (.dK kvs) ∧ k = !kvs.isEmpty
  | _ => False
theorem isEmpty_kv {κ : Type} {kvs : List (κ × V)} {vs : List (κ × Value)} (r : KV kvs vs) : (!vs.isEmpty) = !kvs.isEmpty := by
  cases r <;> rfl
theorem isEmpty_of {xs : List V} {its : List Value} (r : Vals xs its) : (!its.toArray.isEmpty) = !xs.isEmpty := by
  cases r <;> simp
theorem line63 : (sizeLine : Nat) < 2 ^ 63 := by rw [sizeLine_eq]; decide
theorem tru_ok : TruR X (fun x H Q => ∃ k, TruV X.K x H k ∧ Q k H) := by
  intro pins s σ H x v Q I rx h
  obtain ⟨k, e, q⟩ := h
  have hl := line63
  have hs : sizeLine = 16777216 := sizeLine_eq
  cases x with
  | non =>
    cases rx
    have e' : k = false := e
    subst e'
    exact truthy_none ⟨H, I, q⟩
  | bl b =>
    cases rx
    have e' : k = b := e
    subst e'
    exact wpAny_truthy_bool ⟨H, I, q⟩
  | int i =>
    obtain ⟨t, rfl⟩ := rx
    have e' : k = (i != 0) := e
    subst e'
    exact PySem.P.truthy_int ⟨H, I, q⟩
  | str y =>
    obtain ⟨t, rfl⟩ := rx
    obtain ⟨hy, e'⟩ : y.length ≤ sizeLine ∧ k = ((y.length : Int) != 0) := e
    subst e'
    exact PySem.P.truthy_str (by omega) ⟨H, I.tok _, q⟩
  | byt y =>
    obtain ⟨t, rfl⟩ := rx
    obtain ⟨hy, e'⟩ : y.size ≤ sizeLine ∧ k = ((y.size : Int) != 0) := e
    subst e'
    exact PySem.W.truthy_bytes (by omega) ⟨H, I.tok _, q⟩
  | ref p =>
    cases rx
    have e' : (∃ xs, SqL X.K H p xs ∧ k = !xs.isEmpty) ∨ (∃ xs, SqT X.K H p xs ∧ k = !xs.isEmpty) ∨ ∃ kvs, H p = some (.dK kvs) ∧ k = !kvs.isEmpty := e
    rcases e' with ⟨xs, hx, e'⟩ | ⟨xs, hx, e'⟩ | ⟨kvs, hx, e'⟩
    · subst e'
      obtain ⟨its, r, pl, hz⟩ := I.list hx
      have hlen := r.length
      exact wpAny_truthy_list pl.isList (by simp only [List.size_toArray]; omega) ⟨H, I.tok _, by rw [isEmpty_of r]; exact q⟩
    · subst e'
      obtain ⟨its, r, pl, hz⟩ := I.tuple hx
      have hlen := r.length
      exact truthy_tuple pl (by simp only [List.size_toArray]; omega) ⟨H, I.tok _, by rw [isEmpty_of r]; exact q⟩
    · subst e'
      obtain ⟨hz, hS, vs, r, m⟩ : kvs.length ≤ sizeLine ∧ (p == sysModules) = false ∧ ∃ vs, KV kvs vs ∧ s.heap.DictOf (mixKind X.prog X.w) p vs := I.hok p _ hx
      have hlen : kvs.length = vs.length := Paired.length r
      exact wpAny_truthy_dict hS m (by omega) ⟨H, I.tok _, by rw [isEmpty_kv r]; exact q⟩
  | _ => exact (show False from e).elim
/-- any expression whose test is its value's truth (a name, a call, a subscript, a field ..: he by fun _ => rfl) -/
theorem pt_truth (ha : PE X a ta) (he : ∀ whole, isTrue a X.env whole = (do let v ← whole; standAt a.pos; holding [v] (truthy v))) :
    PT X a (fun σ H Q => ta σ H fun x H' => ∃ k, TruV X.K x H' k ∧ Q k H') := by
  intro pins s σ H Q I h
  exact isTrue_plain (thn (ha pins s σ H _ I h) fun v s1 ⟨x, H1, I1, r1, q1⟩ => tru_ok pins s1 σ H1 x v Q I1 r1 q1) (he _)

/-! ### strs and bytes -/
theorem pe_byt {x : List UInt8} {k : Nat} : PE X (.Constant (.bytes x) k pos) (fun _ H Q => Q (.byt x.toArray) H) := fun _ _ _ H _ I h => PySem.W.Constant_bytes ⟨.byt x.toArray, H, I.tok _, ⟨_, rfl⟩, h⟩
theorem op_add_str : OpR X (binaryOp .Add) (fun x y H Q => ∃ i j, x = .str i ∧ y = .str j ∧ i.length + j.length ≤ sizeLine ∧ Q (.str (i ++ j)) H) := by
  intro pins s σ H x y v u Q I rx ry h
  obtain ⟨i, j, rfl, rfl, hz, q⟩ := h
  obtain ⟨t, rfl⟩ := rx
  obtain ⟨t', rfl⟩ := ry
  exact add_str (fun t' tk => ⟨.str (i ++ j), H, I.tok _, ⟨_, rfl⟩, q⟩) hz
theorem iop_add_str : OpR X (inplaceOp .Add) (fun x y H Q => ∃ i j, x = .str i ∧ y = .str j ∧ i.length + j.length ≤ sizeLine ∧ Q (.str (i ++ j)) H) := by
  intro pins s σ H x y v u Q I rx ry h
  obtain ⟨i, j, rfl, rfl, hz, q⟩ := h
  obtain ⟨t, rfl⟩ := rx
  obtain ⟨t', rfl⟩ := ry
  exact iadd_str (fun t' tk => ⟨.str (i ++ j), H, I.tok _, ⟨_, rfl⟩, q⟩) hz
theorem op_add_byt : OpR X (binaryOp .Add) (fun x y H Q => ∃ i j, x = .byt i ∧ y = .byt j ∧ i.size + j.size ≤ 16777216 ∧ Q (.byt (i ++ j)) H) := by
  intro pins s σ H x y v u Q I rx ry h
  obtain ⟨i, j, rfl, rfl, hz, q⟩ := h
  obtain ⟨t, rfl⟩ := rx
  obtain ⟨t', rfl⟩ := ry
  exact PySem.W.KBy.add_bytes hz (fun t' tk => ⟨.byt (i ++ j), H, I.tok _, ⟨_, rfl⟩, q⟩)

def PlainIxT (b : Expr) : Prop := ∀ o i, subscripted b false o i = operate [o, i] (getItem o i)
/-- s[i], 0 ≤ i < len -/
theorem pe_item_str (ha : PE X a ta) (hb : PE X b tb) (hs : PlainIxT b) :
    PE X (.Subscript a b pos) (tOp (fun x y H Q => ∃ z i c, x = .str z ∧ y = .int i ∧ 0 ≤ i ∧ i < 2 ^ 63 ∧ i < z.length ∧ z.cps[i.toNat]? = some c ∧ Q (.str ⟨#[c]⟩) H) ta tb) := by
  intro pins s σ H Q I h
  refine Subscript_ (binT ha hb I h fun v u s2 x y H2 I2 rx ry q => ?_)
  obtain ⟨z, i, c, rfl, rfl, h0, h63, h1, hc, q⟩ := q
  obtain ⟨t, rfl⟩ := rx
  obtain ⟨t', rfl⟩ := ry
  have e : seqIndex? i z.length = some i.toNat := PySem.StrLaws.seqIndex_nonneg h0 h1
  exact tail_any (typeIs_str s2 z t) slot_str_getitem.lookup (getItem_str (c := c) (by
    have e1 : decide (i < -(2 ^ 63 : Int)) = false := decide_eq_false (by omega)
    have e2 : decide (i ≥ 2 ^ 63) = false := decide_eq_false (by omega)
    rw [e1, e2] <;> rfl) (by rw [e]; exact hc) ⟨.str ⟨#[c]⟩, H2, I2.tok _, ⟨_, rfl⟩, q⟩) (hs _ _)
/-- b[i], 0 ≤ i < len -/
theorem pe_item_byt (ha : PE X a ta) (hb : PE X b tb) (hs : PlainIxT b) :
    PE X (.Subscript a b pos) (tOp (fun x y H Q => ∃ (z : List UInt8) (i : Int), x = .byt z.toArray ∧ y = .int i ∧ z.length ≤ sizeLine ∧ 0 ≤ i ∧ i < z.length ∧ Q (.int ((z.getD i.toNat 0).toNat : Nat)) H) ta tb) := by
  intro pins s σ H Q I h
  refine Subscript_ (binT ha hb I h fun v u s2 x y H2 I2 rx ry q => ?_)
  obtain ⟨z, i, rfl, rfl, hz, h0, h1, q⟩ := q
  obtain ⟨t, rfl⟩ := rx
  obtain ⟨t', rfl⟩ := ry
  have hl : sizeLine = 16777216 := sizeLine_eq
  exact tail_any (PySem.W.typeIs_bytes s2 z.toArray t) PySem.W.FB.slot_bytes_getitem.lookup (PySem.W.getItem_bytes (by omega) h0 h1 ⟨.int ((z.getD i.toNat 0).toNat : Nat), H2, I2.tok _, ⟨_, rfl⟩, q⟩) (hs _ _)

/-! ### scalar builtins, by CallR -/
theorem vals1 {x : V} {us : List Value} (r : Vals [x] us) : ∃ u, us = [u] ∧ RelV x u := by
  cases r with
  | cons r1 r2 => cases r2; exact ⟨_, rfl, r1⟩
theorem vals2 {x y : V} {us : List Value} (r : Vals [x, y] us) : ∃ u w', us = [u, w'] ∧ RelV x u ∧ RelV y w' := by
  cases r with
  | cons r1 r2 =>
    cases r2 with
    | cons r3 r4 => cases r4; exact ⟨_, _, rfl, r1, r3⟩
theorem call_abs : CallR X (.builtin "abs") (fun xs H Q => ∃ i, xs = [.int i] ∧ Q (.int (if i < 0 then -i else i)) H) := by
  intro pins s σ H xs us Q I r h
  obtain ⟨i, rfl, q⟩ := h
  obtain ⟨u, rfl, t, rfl⟩ := vals1 r
  exact call_abs_int fun u tk => ⟨.int (if i < 0 then -i else i), H, I.tok _, ⟨_, rfl⟩, q⟩
theorem call_max2 (hc : X.calm = true) : CallR X (.builtin "max") (fun xs H Q => ∃ i j, xs = [.int i, .int j] ∧ Q (.int (if j > i then j else i)) H) := by
  intro pins s σ H xs us Q I r h
  obtain ⟨i, j, rfl, q⟩ := h
  obtain ⟨u, w', rfl, ⟨t, rfl⟩, ⟨t', rfl⟩⟩ := vals2 r
  refine max_two_ints (I.ok.hd hc) fun h' tk k => ⟨_, H, I.kept k, ?_, q⟩
  by_cases hj : j > i
  · rw [if_pos hj, if_pos hj]; exact ⟨_, rfl⟩
  · rw [if_neg hj, if_neg hj]; exact ⟨_, rfl⟩
theorem call_min2 (hc : X.calm = true) : CallR X (.builtin "min") (fun xs H Q => ∃ i j, xs = [.int i, .int j] ∧ Q (.int (if j < i then j else i)) H) := by
  intro pins s σ H xs us Q I r h
  obtain ⟨i, j, rfl, q⟩ := h
  obtain ⟨u, w', rfl, ⟨t, rfl⟩, ⟨t', rfl⟩⟩ := vals2 r
  refine min_two_ints (I.ok.hd hc) fun h' tk k => ⟨_, H, I.kept k, ?_, q⟩
  by_cases hj : j < i
  · rw [if_pos hj, if_pos hj]; exact ⟨_, rfl⟩
  · rw [if_neg hj, if_neg hj]; exact ⟨_, rfl⟩
theorem call_int1 : CallR X (.type "int") (fun xs H Q => (∃ i, xs = [.int i] ∧ Q (.int i) H) ∨ ∃ k, xs = [.bl k] ∧ Q (.int (if k then 1 else 0)) H) := by
  intro pins s σ H xs us Q I r h
  rcases h with ⟨i, rfl, q⟩ | ⟨k, rfl, q⟩
  · obtain ⟨u, rfl, t, rfl⟩ := vals1 r
    exact call_int_int ⟨.int i, H, I, ⟨_, rfl⟩, q⟩
  · obtain ⟨u, rfl, r1⟩ := vals1 r
    cases r1
    exact call_int_bool ⟨.int (if k then 1 else 0), H, I.tok _, ⟨_, rfl⟩, q⟩
theorem call_bool1 : CallR X (.type "bool") (fun xs H Q => (∃ i, xs = [.int i] ∧ Q (.bl (i != 0)) H) ∨ ∃ k, xs = [.bl k] ∧ Q (.bl k) H) := by
  intro pins s σ H xs us Q I r h
  rcases h with ⟨i, rfl, q⟩ | ⟨k, rfl, q⟩
  · obtain ⟨u, rfl, t, rfl⟩ := vals1 r
    exact call_bool_int ⟨.bl (i != 0), H, I, rfl, q⟩
  · obtain ⟨u, rfl, r1⟩ := vals1 r
    cases r1
    exact call_bool_bool ⟨.bl k, H, I, rfl, q⟩
theorem call_str_int : CallR X (.type "str") (fun xs H Q => ∃ i, xs = [.int i] ∧ i.natAbs.log2 < 1920 ∧ Q (.str (toString i)) H) := by
  intro pins s σ H xs us Q I r h
  obtain ⟨i, rfl, hz, q⟩ := h
  obtain ⟨u, rfl, t, rfl⟩ := vals1 r
  exact PySem.P.str_of_int hz ⟨.str _, H, I.tok _, ⟨_, rfl⟩, q⟩
theorem call_ord : CallR X (.builtin "ord") (fun xs H Q => ∃ x, xs = [.str x] ∧ x.length = 1 ∧ Q (.int (x.cps.getD 0 0 : Nat)) H) := by
  intro pins s σ H xs us Q I r h
  obtain ⟨x, rfl, hz, q⟩ := h
  obtain ⟨u, rfl, t, rfl⟩ := vals1 r
  exact ord_of_one hz ⟨.int _, H, I.tok _, ⟨_, rfl⟩, q⟩
theorem call_chr : CallR X (.builtin "chr") (fun xs H Q => ∃ i, xs = [.int i] ∧ 0 ≤ i ∧ i ≤ 1114111 ∧ Q (.str ⟨#[i.toNat]⟩) H) := by
  intro pins s σ H xs us Q I r h
  obtain ⟨i, rfl, h0, h1, q⟩ := h
  obtain ⟨u, rfl, t, rfl⟩ := vals1 r
  exact chr_of_range h0 h1 ⟨.str _, H, I.tok _, ⟨_, rfl⟩, q⟩
/-- len of a str, a bytes, a list, a tuple -/
def LenV (K : PySem.W.Frag) (x : V) (H : Hp) (n : Nat) : Prop :=
  match x with
  | .str y => y.length ≤ sizeLine ∧ n = y.length
  | .byt y => y.size ≤ sizeLine ∧ n = y.size
  | .ref p => (∃ xs, SqL K H p xs ∧ n = xs.length) ∨ ∃ xs, SqT K H p xs ∧ n = xs.length
  | _ => False
theorem call_len : CallR X (.builtin "len") (fun xs H Q => ∃ x n, xs = [x] ∧ LenV X.K x H n ∧ Q (.int n) H) := by
  intro pins s σ H xs us Q I r h
  obtain ⟨x, n, rfl, e, q⟩ := h
  obtain ⟨u, rfl, rx⟩ := vals1 r
  have hl := line63
  have hs : sizeLine = 16777216 := sizeLine_eq
  cases x with
  | str y =>
    obtain ⟨t, rfl⟩ := rx
    obtain ⟨hy, e'⟩ : y.length ≤ sizeLine ∧ n = y.length := e
    subst e'
    exact len_str (by omega) ⟨.int _, H, I.tok _, ⟨_, rfl⟩, q⟩
  | byt y =>
    obtain ⟨t, rfl⟩ := rx
    obtain ⟨hy, e'⟩ : y.size ≤ sizeLine ∧ n = y.size := e
    subst e'
    exact PySem.W.len_bytes (by omega) ⟨.int _, H, I.tok _, ⟨_, rfl⟩, q⟩
  | ref p =>
    cases rx
    have e' : (∃ xs, SqL X.K H p xs ∧ n = xs.length) ∨ ∃ xs, SqT X.K H p xs ∧ n = xs.length := e
    rcases e' with ⟨xs, hx, e'⟩ | ⟨xs, hx, e'⟩
    · subst e'
      obtain ⟨its, r', pl, hz⟩ := I.list hx
      have hlen := r'.length
      exact Calls.call_len_list pl.isList (by simp only [List.size_toArray]; omega) ⟨.int xs.length, H, I.tok _, ⟨_, by simp only [List.size_toArray]; rw [hlen]⟩, q⟩
    · subst e'
      obtain ⟨its, r', pl, hz⟩ := I.tuple hx
      have hlen := r'.length
      exact len_tuple pl (by simp only [List.size_toArray]; omega) ⟨.int xs.length, H, I.tok _, ⟨_, by simp only [List.size_toArray]; rw [hlen]⟩, q⟩
  | _ => exact (show False from e).elim
/-- divmod: a new tuple -/
theorem call_divmod : CallR X (.builtin "divmod") (fun xs H Q => ∃ i j, xs = [.int i, .int j] ∧ CDiv i j ∧ ∀ p, H p = none → Q (.ref p) (upd H p (.tup [.int (i / j), .int (i % j)]))) := by
  intro pins s σ H xs us Q I r h
  obtain ⟨i, j, rfl, ⟨h1, h2⟩, q⟩ := h
  obtain ⟨u, w', rfl, ⟨t, rfl⟩, ⟨t', rfl⟩⟩ := vals2 r
  refine divmod_int (by omega) ?_ (.inl (PyProof.noPylong_small (by omega)))
  rw [Int.fdiv_eq_ediv_of_nonneg i (by omega), Int.fmod_eq_emod_of_nonneg i (by omega)]
  have hn : H s.heap.objs.size = none := I.hok.fresh (Nat.le_refl _)
  refine ⟨.ref s.heap.objs.size, _, ?_, rfl, q _ hn⟩
  refine I.laid (fun b o e => Heap.get?_push_of_some _ e) (Nat.le_refl _) ⟨by simp only [List.length_cons, List.length_nil]; rw [sizeLine_eq]; decide, [.int (i / j) s.toks, .int (i % j) (s.toks + 1)], .cons ⟨_, rfl⟩ (.cons ⟨_, rfl⟩ .nil), ?_⟩
  exact ⟨_, Heap.get?_push_size s.heap rfl, rfl, 0, rfl⟩
end
end L2

namespace L2
open PySem PySem.Spec PyProof.Rows

/-! ### an instance, its attributes a map -/
structure ObjM (h : Heap) (x dx C : Addr) (mA : Str → Option Value) : Prop where
  obj : h.get? x = some (PySem.W.instObj C dx)
  ns : h.Ns1 dx mA
  ne : dx ≠ x

theorem lookIn_ns {h : Heap} {dx : Addr} {mA : Str → Option Value} (n : h.Ns1 dx mA) : ∃ od, h.get? dx = some od ∧ ∀ name, PySem.W.lookIn name od = some (mA name) := by
  obtain ⟨o, es, ep, ho, hd, hk, _, hm⟩ := n
  refine ⟨o, ho, fun name => ?_⟩
  have e := hm name
  unfold nsFind findBy at e
  rw [← Array.find?_toList] at e
  unfold PySem.W.lookIn
  rw [hd]
  dsimp only
  split
  · rename_i y q
    rw [q] at e
    exact congrArg some e
  · rename_i q
    rw [q] at e
    have a : es.toList.any (·.refKey) = false := by
      rw [List.any_eq_false]
      intro y hy
      obtain ⟨z, t, hkey⟩ := hk y (Array.mem_toList_iff.mp hy)
      simp [DictEntry.refKey, hkey]
    have a' : ¬ es.toList.any (·.refKey) = true := by rw [a]; exact Bool.false_ne_true
    rw [if_neg a']
    exact congrArg some e

theorem ObjM.look {h : Heap} {x dx C : Addr} {mA : Str → Option Value} (I : ObjM h x dx C mA) : ∃ od, PySem.W.InstAt h x (PySem.W.instObj C dx) C (some od) ∧ ∀ name, PySem.W.lookIn name od = some (mA name) :=
  let ⟨od, ho, hl⟩ := lookIn_ns I.ns
  ⟨od, ⟨I.obj, rfl, rfl, ho⟩, hl⟩

section
variable {prog : Program} {w : World} {A : Around} {E : Value → Shared → Prop} {s : Shared} {K : PySem.W.Frag} {x dx C f : Addr} {mA : Str → Option Value} {name : Str} {v : Value}

theorem get_map {expr : Bool} {Q : Value → Shared → Prop} (X : K.In s.heap) (I : ObjM s.heap x dx C mA) (hg : PySem.W.plainGet K C name = true) (hh : PySem.W.hasDictIn K C = true)
    (ha : PySem.W.findIn K (.ref C) name = some none) (hv : mA name = some v) (hv' : PySem.W.handedIn v = true) (h : Q v { s with toks := s.toks + 1 }) :
    wpAny (model prog w) A (getAttr (.ref x) name expr) Q E s := by
  obtain ⟨od, J, hl⟩ := I.look
  exact PySem.W.get_value X J (PySem.W.plainGet_of hg).1 (PySem.W.findObj_own hh ha rfl (by rw [hl, hv])) hv' h

theorem get_const {expr : Bool} {a : Value} {Q : Value → Shared → Prop} (X : K.In s.heap) (I : ObjM s.heap x dx C mA) (hg : PySem.W.plainGet K C name = true) (hh : PySem.W.hasDictIn K C = true)
    (ha : PySem.W.findIn K (.ref C) name = some (some a)) (hn : PySem.W.specialIn K a "__get__" = some none) (hc : PySem.W.copiedNames.contains name = false) (hv : mA name = none) (hv' : PySem.W.handedIn a = true)
    (h : Q a { s with toks := s.toks + 1 }) : wpAny (model prog w) A (getAttr (.ref x) name expr) Q E s := by
  obtain ⟨od, J, hl⟩ := I.look
  exact PySem.W.get_value X J (PySem.W.plainGet_of hg).1 (PySem.W.findObj_cls hh ha hn hv' hc (by rw [hl, hv])) hv' h

theorem get_meth {pl : Sem Bool} {Q : Value × List Value → Shared → Prop} (X : K.In s.heap) (I : ObjM s.heap x dx C mA) (hg : PySem.W.plainGet K C name = true)
    (hf : PySem.W.findIn K (.ref C) name = some (some (.ref f))) (ht : PySem.W.isFn K (.ref f) = true) (hv : mA name = none) (h : Q (.ref f, [.ref x]) s) :
    wpAny (model prog w) A (getMethod (.ref x) name pl) Q E s := by
  obtain ⟨od, J, hl⟩ := I.look
  exact PySem.W.method_fn X J (PySem.W.plainGet_of hg).1 (PySem.W.plainGet_of hg).2 hf (beq_iff_eq.mp ht) (by show (PySem.W.lookIn name od).map (·.isSome) = some false; rw [hl, hv]; rfl) h

theorem set_map {ns : List Str} {Q : Unit → Shared → Prop} (X : K.In s.heap) (I : ObjM s.heap x dx C mA)
    (hs : PySem.W.findIn K (.ref C) "__setattr__" = some (some (.builtin "object.__setattr__"))) (hp : PySem.W.plainOver K C = true) (ht : PySem.W.takerIn K C name = some none) (hh : PySem.W.hasDictIn K C = true)
    (hw : PySem.Within mA ns) (hsz : ns.length ≤ sizeLine)
    (h : ∀ h', ObjM h' x dx C (fun y => if y = name then some v else mA y) → Heap.SameBut dx s.heap h' → Q () { s with heap := h', toks := s.toks + 2 }) :
    wpAny (model prog w) A (setAttr (.ref x) name v) Q E s := by
  obtain ⟨od, J, hl⟩ := I.look
  refine PySem.W.set_plain X J hs (PySem.W.osa_open (s := { s with toks := s.toks + 1 }) (r := none) X J hp ht fun b => ?_)
  obtain ⟨cd, hc, hd'⟩ := PySem.W.any_some hh
  have hx : s.heap.get? x = some ⟨.ref C, some dx, .plain, #[]⟩ := I.obj
  refine wpAny_bind (wpAny_pure (wpAny_bind (wpAny_bind (wpAny_loadPart hx (wpAny_bind (PySem.W.Looks.here (s := { s with toks := s.toks + 1 }) (PySem.W.looks_clsIn X hc) ?_))))))
  rw [hd']
  refine wpAny_pure (a := some dx) (wpAny_bind (wpAny_pure (wpAny_bind ?_)))
  refine wpAny_nsSet1 (s := { s with toks := s.toks + 1 }) I.ns fun h' hn2 hs2 => ?_
  obtain ⟨oD, esD, epD, hoD, hdD, hcD⟩ := hn2.count (PySem.Within.cons name v hw)
  refine wpAny_bind (wpAny_lookBehind hoD (by rw [hdD]; exact pastItsLine_dict (Nat.le_trans hcD (by rw [List.length_cons]; omega))) ?_)
  exact wpAny_pure (h _ ⟨(hs2.2 _ (Ne.symm I.ne)).trans I.obj, hn2, I.ne⟩ hs2)

/-- C(..): the dict at the heap's end, the instance behind it; then its __init__ -/
theorem make_map {R : Result → Shared → Prop} {vs : List Value} {kw : List (Str × Value)} (X : K.In s.heap) (hm : PySem.W.makesIn K C = true)
    (hi : PySem.W.findIn K (.ref C) "__init__" = some (some (.ref f))) (hf : PySem.W.typeIn K (.ref f) = some (.type "function"))
    (h : codeAny (model prog w) (A.under (.builtin "type.__call__" ⟨.ref C :: vs, kw⟩)) (.call (.ref f) ⟨.ref (s.heap.objs.size + 1) :: vs, kw⟩) (PySem.W.InitBack (s.heap.objs.size + 1) R)
      { s with heap := (s.heap.push PySem.W.emptyDict).push (PySem.W.instObj C s.heap.objs.size) }) :
    codeAny (model prog w) A (.call (.ref C) ⟨vs, kw⟩) R s := by
  obtain ⟨hh, g, d, t, os⟩ := s
  exact PySem.W.make_core (PySem.W.makes_of X hm) (PySem.W.looks_findIn X hi) (fun self => PySem.W.bind_fn X self hf) (.inl rfl) h
/-- C() where there is no __init__ but object's -/
theorem make_map0 {R : Result → Shared → Prop} (X : K.In s.heap) (hm : PySem.W.makesIn K C = true)
    (hi : PySem.W.findIn K (.ref C) "__init__" = some (some (.builtin "object.__init__")))
    (hb : ∀ self, PySem.W.Looks (model prog w) s.heap (bindSpecial (.builtin "object.__init__") self) (.builtin "object.__init__", [self]))
    (h : codeAny (model prog w) (A.under (.builtin "type.__call__" ⟨[.ref C], []⟩)) (.call (.builtin "object.__init__") ⟨[.ref (s.heap.objs.size + 1)], []⟩) (PySem.W.InitBack (s.heap.objs.size + 1) R)
      { s with heap := (s.heap.push PySem.W.emptyDict).push (PySem.W.instObj C s.heap.objs.size) }) :
    codeAny (model prog w) A (.call (.ref C) ⟨[], []⟩) R s := by
  obtain ⟨hh, g, d, t, os⟩ := s
  exact PySem.W.make_core (PySem.W.makes_of X hm) (PySem.W.looks_findIn X hi) hb (.inr ⟨rfl, rfl⟩) h
end

/-! ### the attributes as a list of pairs -/
def putF (f : Str) (v : V) : List (Str × V) → List (Str × V)
  | [] => [(f, v)]
  | (g, x) :: r => if g = f then (g, v) :: r else (g, x) :: putF f v r
theorem lookup_putF (f g : Str) (v : V) : ∀ fs : List (Str × V), (putF f v fs).lookup g = if g = f then some v else fs.lookup g
  | [] => by
    show List.lookup g [(f, v)] = _
    by_cases h : g = f
    · have hb : (g == f) = true := beq_iff_eq.mpr h
      simp only [List.lookup, hb, if_pos h]
    · have hb : (g == f) = false := beq_eq_false_iff_ne.mpr h
      simp only [List.lookup, hb, if_neg h]
  | (k, x) :: r => by
    have ih := lookup_putF f g v r
    rw [show putF f v ((k, x) :: r) = (if k = f then (k, v) :: r else (k, x) :: putF f v r) from rfl]
    by_cases hk : k = f
    · rw [if_pos hk]
      by_cases h : g = k
      · have hb : (g == k) = true := beq_iff_eq.mpr h
        simp only [List.lookup, hb, if_pos (h.trans hk)]
      · have hb : (g == k) = false := beq_eq_false_iff_ne.mpr h
        simp only [List.lookup, hb, if_neg (fun e : g = f => h (e.trans hk.symm))]
    · rw [if_neg hk]
      by_cases h : g = k
      · have hb : (g == k) = true := beq_iff_eq.mpr h
        simp only [List.lookup, hb, if_neg (fun e : g = f => hk (h.symm.trans e))]
      · have hb : (g == k) = false := beq_eq_false_iff_ne.mpr h
        simp only [List.lookup, hb]
        exact ih
theorem keys_putF (f : Str) (v : V) : ∀ fs : List (Str × V), f ∈ (putF f v fs).map (·.1) ∧ ∀ g, g ∈ fs.map (·.1) → g ∈ (putF f v fs).map (·.1)
  | [] => ⟨by simp [putF], fun g h => by simp at h⟩
  | (k, x) :: r => by
    obtain ⟨i1, i2⟩ := keys_putF f v r
    rw [show putF f v ((k, x) :: r) = (if k = f then (k, v) :: r else (k, x) :: putF f v r) from rfl]
    by_cases hk : k = f
    · rw [if_pos hk]
      subst hk
      exact ⟨by simp, fun g h => by simpa using h⟩
    · rw [if_neg hk]
      refine ⟨?_, fun g h => ?_⟩
      · rw [List.map_cons]
        exact List.mem_cons_of_mem _ i1
      · rw [List.map_cons] at h ⊢
        rcases List.mem_cons.mp h with e | e
        · exact List.mem_cons.mpr (.inl e)
        · exact List.mem_cons_of_mem _ (i2 g e)
theorem length_putF (f : Str) (v : V) : ∀ fs : List (Str × V), (putF f v fs).length ≤ fs.length + 1
  | [] => by simp [putF]
  | (k, x) :: r => by
    have ih := length_putF f v r
    rw [show putF f v ((k, x) :: r) = (if k = f then (k, v) :: r else (k, x) :: putF f v r) from rfl]
    by_cases hk : k = f
    · rw [if_pos hk, List.length_cons, List.length_cons]; omega
    · rw [if_neg hk, List.length_cons, List.length_cons]; omega

theorem RelO.some_of {v : V} {o : Option Value} (r : RelO (some v) o) : ∃ u, o = some u ∧ RelV v u := by
  cases o with
  | none => exact (show False from r).elim
  | some u => exact ⟨u, rfl, r⟩
theorem RelO.none_of {o : Option Value} (r : RelO none o) : o = none := by
  cases o with
  | none => rfl
  | some u => exact (show False from r).elim
theorem handed_of {v : V} {u : Value} (r : RelV v u) : PySem.W.handedIn u = true := by
  cases v with
  | non => cases (show u = Value.none from r); rfl
  | bl b => cases (show u = Value.bool b from r); rfl
  | int i => obtain ⟨t, e⟩ := (show ∃ t, u = Value.int i t from r); cases e; rfl
  | str x => obtain ⟨t, e⟩ := (show ∃ t, u = Value.str x t from r); cases e; rfl
  | byt b => obtain ⟨t, e⟩ := (show ∃ t, u = Value.bytes b t from r); cases e; rfl
  | flt b => obtain ⟨t, e⟩ := (show ∃ t, u = Value.float b t from r); cases e; rfl
  | ref a => cases (show u = Value.ref a from r); rfl
  | ty n => cases (show u = Value.type n from r); rfl

section
variable {P : Program} {w : World} {H H' : Hp} {h h' : Heap} {a C dx : Addr} {fs fs' : List (Str × V)}
theorem ins_get (hok : HOk P w H h) (e : H a = some (.ins C dx fs)) : ∃ mA, ObjM h a dx C mA ∧ (∀ f, RelO (fs.lookup f) (mA f)) ∧ PySem.Within mA (fs.map (·.1)) ∧ fs.length ≤ 1000 ∧ H dx = some (.own a) := by
  obtain ⟨d, z, ne, ob, mA, n, r, q⟩ := (show ObjOk P w H h a (.ins C dx fs) from hok a _ e)
  exact ⟨mA, ⟨ob, n, ne⟩, r, q, z, d⟩
end

/-! ### what of the text a class must have -/
structure Cls (K : PySem.W.Frag) (C : Addr) : Prop where
  pg : PySem.W.plainGet K C Str.empty = true
  hd : PySem.W.hasDictIn K C = true
  po : PySem.W.plainOver K C = true
  sa : PySem.W.findIn K (.ref C) "__setattr__" = some (some (.builtin "object.__setattr__"))
theorem Cls.get {K : PySem.W.Frag} {C : Addr} (c : Cls K C) (f : Str) : PySem.W.plainGet K C f = true := c.pg
/-- no class of it has the name -/
def NoAttr (K : PySem.W.Frag) (C : Addr) (f : Str) : Prop := PySem.W.findIn K (.ref C) f = some none
theorem NoAttr.taker {K : PySem.W.Frag} {C : Addr} {f : Str} (n : NoAttr K C f) : PySem.W.takerIn K C f = some none := by
  unfold PySem.W.takerIn
  rw [show PySem.W.findIn K (.ref C) f = some none from n]
  rfl
/-- a constant of the class -/
structure Con (K : PySem.W.Frag) (C : Addr) (f : Str) (v : V) (u : Value) : Prop where
  at_ : PySem.W.findIn K (.ref C) f = some (some u)
  rel : RelV v u
  get : PySem.W.specialIn K u "__get__" = some none
  cp : PySem.W.copiedNames.contains f = false
/-- a method: a plain def of the class or of one above it -/
structure Meth (K : PySem.W.Frag) (C : Addr) (m : Str) (f : Addr) : Prop where
  at_ : PySem.W.findIn K (.ref C) m = some (some (.ref f))
  fn : PySem.W.isFn K (.ref f) = true
  kp : PySem.W.keepIn K (.ref f) = true

section
variable {X : Cx} {pins : List (Addr × Obj)} {σ : St} {H : Hp} {s : Shared} {a C dx : Addr} {fs : List (Str × V)} {f : Str} {v : V} {A : Around} {E : Value → Shared → Prop}

theorem getattr_ok {b : Bool} {Q : Value → Shared → Prop} (I : Inv X pins σ H s) (e : H a = some (.ins C dx fs)) (c : Cls X.K C) (n : NoAttr X.K C f) (l : fs.lookup f = some v)
    (h : ∀ u s', Inv X pins σ H s' → RelV v u → Q u s') : wpAny (model X.prog X.w) A (getAttr (.ref a) f b) Q E s := by
  obtain ⟨mA, O, r, _, _, _⟩ := ins_get I.hok e
  obtain ⟨u, hu, ru⟩ := RelO.some_of (v := v) (o := mA f) (by rw [← l]; exact r f)
  exact get_map I.kIn O (c.get f) c.hd n hu (handed_of ru) (h u _ (I.tok _) ru)

theorem getcon_ok {b : Bool} {u : Value} {Q : Value → Shared → Prop} (I : Inv X pins σ H s) (e : H a = some (.ins C dx fs)) (c : Cls X.K C) (k : Con X.K C f v u) (l : fs.lookup f = none)
    (h : ∀ s', Inv X pins σ H s' → Q u s') : wpAny (model X.prog X.w) A (getAttr (.ref a) f b) Q E s := by
  obtain ⟨mA, O, r, _, _, _⟩ := ins_get I.hok e
  have hn : mA f = none := RelO.none_of (by rw [← l]; exact r f)
  exact get_const I.kIn O (c.get f) c.hd k.at_ k.get k.cp hn (handed_of k.rel) (h _ (I.tok _))

theorem getmeth_ok {m : Str} {g : Addr} {pl : Sem Bool} {Q : Value × List Value → Shared → Prop} (I : Inv X pins σ H s) (e : H a = some (.ins C dx fs)) (c : Cls X.K C) (k : Meth X.K C m g) (l : fs.lookup m = none)
    (h : Q (.ref g, [.ref a]) s) : wpAny (model X.prog X.w) A (getMethod (.ref a) m pl) Q E s := by
  obtain ⟨mA, O, r, _, _, _⟩ := ins_get I.hok e
  have hn : mA m = none := RelO.none_of (by rw [← l]; exact r m)
  exact get_meth I.kIn O (c.get m) k.at_ k.fn hn h

theorem setattr_ok {y : V} {u : Value} {Q : Unit → Shared → Prop} (I : Inv X pins σ H s) (e : H a = some (.ins C dx fs)) (c : Cls X.K C) (n : NoAttr X.K C f) (hl : fs.length < 1000) (ry : RelV y u)
    (h : ∀ s', Inv X pins σ (upd H a (.ins C dx (putF f y fs))) s' → Q () s') : wpAny (model X.prog X.w) A (setAttr (.ref a) f u) Q E s := by
  obtain ⟨mA, O, r, wi, _, ho⟩ := ins_get I.hok e
  have hz : (fs.map (·.1)).length ≤ sizeLine := by rw [List.length_map, sizeLine_eq]; omega
  refine set_map I.kIn O c.sa c.po n.taker c.hd wi hz fun h' O' sb => h _ ?_
  have hd : ∃ o, h'.get? dx = some o := let ⟨o, _, _, e', _⟩ := O'.ns; ⟨o, e'⟩
  refine I.write (x := a) (e := dx) (by rw [e]; exact True.intro) (.inr ho) (fun b q hb z => (sb.2 b hb).trans z) hd ?_
  refine ⟨by rw [upd_ne O.ne]; exact ho, ?_, O.ne, O'.obj, _, O'.ns, fun g => ?_, fun g hg => ?_⟩
  · have := length_putF f y fs; omega
  · show RelO ((putF f y fs).lookup g) (if g = f then some u else mA g)
    rw [lookup_putF]
    by_cases q : g = f
    · rw [if_pos q, if_pos q]; exact ry
    · rw [if_neg q, if_neg q]; exact r g
  · by_cases q : g = f
    · rw [q]; exact (keys_putF f y fs).1
    · refine (keys_putF f y fs).2 g (wi g fun z => hg ?_)
      show (if g = f then some u else mA g) = none
      rw [if_neg q]; exact z

/-- a new instance, tracked, without attributes -/
theorem Inv.made (I : Inv X pins σ H s) : Inv X pins σ (upd (upd H s.heap.objs.size (.own (s.heap.objs.size + 1))) (s.heap.objs.size + 1) (.ins C s.heap.objs.size []))
    { s with heap := (s.heap.push PySem.W.emptyDict).push (PySem.W.instObj C s.heap.objs.size) } := by
  have e1 : (s.heap.push PySem.W.emptyDict).get? s.heap.objs.size = some PySem.W.emptyDict := Heap.get?_push_size s.heap rfl
  have e2 : ((s.heap.push PySem.W.emptyDict).push (PySem.W.instObj C s.heap.objs.size)).get? (s.heap.objs.size + 1) = some (PySem.W.instObj C s.heap.objs.size) := by
    have := Heap.get?_push_size (s.heap.push PySem.W.emptyDict) (o := PySem.W.instObj C s.heap.objs.size) rfl
    rwa [Heap.size_push] at this
  have e3 : (s.heap.push PySem.W.emptyDict).Ns s.heap.objs.size (fun _ => none) := ⟨PySem.W.emptyDict, #[], _, e1, rfl, (fun e he => absurd he (by simp)), fun _ => rfl⟩
  have I1 := I.laid (a := s.heap.objs.size) (o := .own (s.heap.objs.size + 1)) (h' := s.heap.push PySem.W.emptyDict) (t' := s.toks) (fun b u q => Heap.get?_push_of_some _ q) (Nat.le_refl _) ⟨_, e1⟩
  refine I1.laid (a := s.heap.objs.size + 1) (o := .ins C s.heap.objs.size []) (t' := s.toks) (fun b u q => Heap.get?_push_of_some _ q) (Nat.le_of_eq (Heap.size_push _ _)) ?_
  have ne : s.heap.objs.size ≠ s.heap.objs.size + 1 := Nat.ne_of_lt (Nat.lt_succ_self _)
  refine ⟨by rw [upd_ne ne, upd_same], Nat.zero_le _, ne, e2, fun _ => none, (Heap.Ns1.of_empty e3).at fun o q => Heap.get?_push_of_some _ q, fun _ => True.intro, fun y hy => absurd rfl hy⟩

/-- e.f where nothing but the object is asked: through attributeBase (super) and the last hold -/
theorem attr_of {prog : Program} {w : World} {env : Env} {e : Expr} {f : Str} {pos : Pos} {s : Shared} {Q : Value → Shared → Prop} (hb : attributeBase e f env (eval e env) = eval e env)
    (h : wpAny (model prog w) A (eval e env) (fun o s₁ => wpAny (model prog w) A (getAttr o f true) Q E s₁) E s) : wpAny (model prog w) A (eval (.Attribute e f pos) env) Q E s :=
  Attribute_any_ h (by rw [arm_eval_Attribute, hb])
end

/-! ### readings and rules -/
/-- e.f, an attribute of the instance -/
def tFld (K : PySem.W.Frag) (ta : TE) (f : Str) : TE := fun σ H Q => ta σ H fun x H1 => ∃ a C dx fs v, x = .ref a ∧ H1 a = some (.ins C dx fs) ∧ Cls K C ∧ NoAttr K C f ∧ fs.lookup f = some v ∧ Q v H1
/-- e.f, a constant of the class -/
def tCon (K : PySem.W.Frag) (ta : TE) (f : Str) : TE := fun σ H Q => ta σ H fun x H1 => ∃ a C dx fs v u, x = .ref a ∧ H1 a = some (.ins C dx fs) ∧ Cls K C ∧ Con K C f v u ∧ fs.lookup f = none ∧ Q v H1
/-- e.f = value -/
def sFld (K : PySem.W.Frag) (ta tv : TE) (f : Str) : TS := fun D σ H => tv σ H fun y H1 => ta σ H1 fun x H2 => ∃ a C dx fs, x = .ref a ∧ H2 a = some (.ins C dx fs) ∧ Cls K C ∧ NoAttr K C f ∧ fs.length < 1000 ∧
  D.nx σ (upd H2 a (.ins C dx (putF f y fs)))
/-- an augmented operator on two values -/
def InOp (X : Cx) (op : Operator) (rd : V → V → Hp → VK → Prop) : Prop :=
  ∀ (pins : List (Addr × Obj)) (s : Shared) (σ : St) (H : Hp) (x y : V) (u v : Value) (Q : VK), Inv X pins σ H s → RelV x u → RelV y v → rd x y H Q → wpAny (model X.prog X.w) X.A (inplaceOp op u v) (EP X pins σ Q) X.xe s
/-- e.f op= value -/
def sFldAug (K : PySem.W.Frag) (ta tv : TE) (rd : V → V → Hp → VK → Prop) (f : Str) : TS := fun D σ H => ta σ H fun x H1 => ∃ a C dx fs v, x = .ref a ∧ H1 a = some (.ins C dx fs) ∧ Cls K C ∧ NoAttr K C f ∧ fs.lookup f = some v ∧
  tv σ H1 fun y H2 => rd v y H2 fun z H3 => ∃ dx' fs', H3 a = some (.ins C dx' fs') ∧ fs'.length < 1000 ∧ D.nx σ (upd H3 a (.ins C dx' (putF f z fs')))

section
variable {X : Cx} {o e value : Expr} {f : Str} {pos pos' tpos : Pos} {ta tv : TE}
theorem pe_fld (he : PE X e ta) (hb : attributeBase e f X.env (eval e X.env) = eval e X.env) : PE X (.Attribute e f pos) (tFld X.K ta f) := by
  intro pins s σ H Q I h
  refine attr_of hb (thn (he pins s σ H _ I h) fun u s1 ⟨x, H1, I1, rx, a, C, dx, fs, v, ex, ea, c, n, l, q⟩ => ?_)
  subst ex
  obtain rfl : u = Value.ref a := rx
  exact getattr_ok I1 ea c n l fun u' s2 I2 ru => ⟨v, H1, I2, ru, q⟩
theorem pe_con (he : PE X e ta) (hb : attributeBase e f X.env (eval e X.env) = eval e X.env) : PE X (.Attribute e f pos) (tCon X.K ta f) := by
  intro pins s σ H Q I h
  refine attr_of hb (thn (he pins s σ H _ I h) fun u s1 ⟨x, H1, I1, rx, a, C, dx, fs, v, u0, ex, ea, c, k, l, q⟩ => ?_)
  subst ex
  obtain rfl : u = Value.ref a := rx
  exact getcon_ok I1 ea c k l fun s2 I2 => ⟨v, H1, I2, k.rel, q⟩
theorem ps_fld (ha : PE X o ta) (hv : PE X value tv) (hs : swapsWith value (some (.Attribute o f pos')) pos.line X.env = pure false) : PS X (.Assign [.Attribute o f pos'] value pos) (sFld X.K ta tv f) := by
  intro pins s σ H D I h
  refine plainObj_wpAny_Assign_Attribute (thn (hv pins s σ H _ I h) fun u s1 ⟨y, H1, I1, ry, q⟩ => thn (ha pins s1 σ H1 _ I1 q) fun ov s2 ⟨x, H2, I2, rx, a, C, dx, fs, ex, ea, c, n, l, q2⟩ => ?_) hs
  subst ex
  obtain rfl : ov = Value.ref a := rx
  exact setattr_ok I2 ea c n l ry fun s3 I3 => ⟨σ, _, I3, q2⟩
theorem ps_fldaug {op : Operator} {rd : V → V → Hp → VK → Prop} (ha : PE X o ta) (hv : PE X value tv) (hop : InOp X op rd) : PS X (.AugAssign (.Attribute o f tpos) op value pos) (sFldAug X.K ta tv rd f) := by
  intro pins s σ H D I h
  refine wpAny_AugAssign_AttributeAny (thn (ha pins s σ H _ I h) fun ov s1 ⟨x, H1, I1, rx, a, C, dx, fs, v, ex, ea, c, n, l, q⟩ => ?_)
  subst ex
  obtain rfl : ov = Value.ref a := rx
  refine getattr_ok I1 ea c n l fun u s2 I2 ru => thn (hv pins s2 σ H1 _ I2 q) fun w3 s3 ⟨y, H2, I3, ry, q3⟩ => thn (hop pins s3 σ H2 v y u w3 _ I3 ru ry q3) fun w4 s4 ⟨z, H3, I4, rz, dx', fs', ea', l', q4⟩ => ?_
  exact setattr_ok I4 ea' c n l' rz fun s5 I5 => ⟨σ, _, I5, q4⟩
def rAdd : V → V → Hp → VK → Prop := fun x y H Q => ∃ i j, x = .int i ∧ y = .int j ∧ Q (.int (i + j)) H
def rSub : V → V → Hp → VK → Prop := fun x y H Q => ∃ i j, x = .int i ∧ y = .int j ∧ Q (.int (i - j)) H
theorem in_add : InOp X .Add rAdd := by
  rintro pins s σ H x y u v Q I rx ry ⟨i, j, rfl, rfl, q⟩
  obtain ⟨t, rfl⟩ := (show ∃ t, u = Value.int i t from rx)
  obtain ⟨t', rfl⟩ := (show ∃ t', v = Value.int j t' from ry)
  exact PyProof.Rows.iadd_int ⟨.int (i + j), H, I.tok _, ⟨_, rfl⟩, q⟩
theorem in_sub : InOp X .Sub rSub := by
  rintro pins s σ H x y u v Q I rx ry ⟨i, j, rfl, rfl, q⟩
  obtain ⟨t, rfl⟩ := (show ∃ t, u = Value.int i t from rx)
  obtain ⟨t', rfl⟩ := (show ∃ t', v = Value.int j t' from ry)
  exact PyProof.Rows.isub_int ⟨.int (i - j), H, I.tok _, ⟨_, rfl⟩, q⟩

/-- what is between an instance and its method: the tree of a method call -/
theorem methcall_of {pl : Sem Bool} {m : Str} {apos : Pos} {args : List Expr} {pins : List (Addr × Obj)} {s : Shared} {σ : St} {H : Hp} {Q : Value → Shared → Prop} {te : TE} (he : PE X e te) (I : Inv X pins σ H s)
    (h : te σ H fun x H1 => ∃ a C dx fs g, x = .ref a ∧ H1 a = some (.ins C dx fs) ∧ Cls X.K C ∧ Meth X.K C m g ∧ fs.lookup m = none ∧
      ∀ s1, Inv X pins σ H1 s1 → wpAny (model X.prog X.w) X.A (callWith pos (.ref g) [.ref a] (backTo pos (starEach args X.env)) (backToKw pos (keywordEach [] X.env))) Q X.xe s1)
    (ht : eval (.Call (.Attribute e m apos) args [] pos) X.env = (do
      let ov ← eval e X.env
      standAt apos.atName
      let (f, first) ← holding [ov] (getMethod ov m pl)
      callWith pos f first (backTo pos (starEach args X.env)) (backToKw pos (keywordEach [] X.env)))) :
    wpAny (model X.prog X.w) X.A (eval (.Call (.Attribute e m apos) args [] pos) X.env) Q X.xe s := by
  refine PySem.W.methodCall_KW (pl := pl) (thn (he pins s σ H _ I h) fun u s1 ⟨x, H1, I1, rx, a, C, dx, fs, g, ex, ea, c, k, l, q⟩ => ?_) ht
  subst ex
  obtain rfl : u = Value.ref a := rx
  exact getmeth_ok I1 ea c k l (q s1 I1)
end

/-! ### isinstance -/
section
variable {X : Cx} {pins : List (Addr × Obj)} {σ : St} {H : Hp} {s : Shared} {A : Around} {E : Value → Shared → Prop} {Q : Value → Shared → Prop} {c : Value} {b : Bool}
/-- the type of a value, as the fragment's deciders take it; for an instance its class -/
inductive TyOf (K : PySem.W.Frag) (H : Hp) : V → Value → Prop where
  | non : TyOf K H .non (.type "NoneType")
  | bl (x : Bool) : TyOf K H (.bl x) (.type "bool")
  | int (i : Int) : TyOf K H (.int i) (.type "int")
  | str (x : Str) : TyOf K H (.str x) (.type "str")
  | flt (x : UInt64) : TyOf K H (.flt x) (.type "float")
  | lst {a : Addr} {xs : List V} (e : H a = some (.lst xs)) : TyOf K H (.ref a) (.type "list")
  | frz {a : Addr} {o : Obj} {xs : List V} (e : H a = some (.frz o (.lst xs))) : TyOf K H (.ref a) (.type "list")
  | tup {a : Addr} {xs : List V} (e : H a = some (.tup xs)) : TyOf K H (.ref a) (.type "tuple")
  | dK {a : Addr} {kvs : List (Key × V)} (e : H a = some (.dK kvs)) : TyOf K H (.ref a) (.type "dict")
  | dT {a : Addr} {kvs : List (List Key × V)} (e : H a = some (.dT kvs)) : TyOf K H (.ref a) (.type "dict")
  | ins {a C dx : Addr} {fs : List (Str × V)} (e : H a = some (.ins C dx fs)) (cl : Cls K C) (ha : PySem.W.findIn K (.ref C) "__class__" = some (some (.builtin "object.__class__")))
      (hn : PySem.W.specialIn K (.builtin "object.__class__") "__get__" = some (some (.builtin "getset_descriptor.__get__"))) (htk : PySem.W.takesIn K (.builtin "object.__class__") = some true)
      (hm : PySem.W.mroIn K C (.type "object") = some true) : TyOf K H (.ref a) (.ref C)
/-- isinstance(x, c) for one class c, a built-in or an own one: kitOne's answer -/
theorem isinst_ok {x : V} {u t : Value} (I : Inv X pins σ H s) (rx : RelV x u) (ty : TyOf X.K H x t) (e : PySem.W.kitOne X.K t c = some b) (h : ∀ tk, Q (.bool b) { s with toks := tk }) :
    wpAny (model X.prog X.w) A (call (.builtin "isinstance") [u, c]) Q E s := by
  cases ty with
  | non => cases (show u = Value.none from rx); exact PySem.W.kia_one PySem.W.kitx_none I.kIn True.intro e (fun z => nomatch z) h
  | bl y => cases (show u = Value.bool y from rx); exact PySem.W.kia_one PySem.W.kitx_bool I.kIn True.intro e (fun z => nomatch z) h
  | int i => obtain ⟨t, q⟩ := (show ∃ t, u = Value.int i t from rx); cases q; exact PySem.W.kia_one PySem.W.kitx_int I.kIn True.intro e (fun z => nomatch z) h
  | str y => obtain ⟨t, q⟩ := (show ∃ t, u = Value.str y t from rx); cases q; exact PySem.W.kia_one PySem.W.kitx_str I.kIn True.intro e (fun z => nomatch z) h
  | flt y => obtain ⟨t, q⟩ := (show ∃ t, u = Value.float y t from rx); cases q; exact PySem.W.kia_one PySem.W.kitx_float I.kIn True.intro e (fun z => nomatch z) h
  | @lst a xs ea =>
    cases (show u = Value.ref a from rx)
    obtain ⟨_, _, n, _, h1⟩ := (show ObjOk X.prog X.w H s.heap a (.lst xs) from I.hok a _ ea)
    exact PySem.W.kia_one PySem.W.kitx_list I.kIn ⟨_, h1, rfl⟩ e (fun z => nomatch z) h
  | @frz a ob xs ea =>
    cases (show u = Value.ref a from rx)
    obtain ⟨_, _, _, n, _, h1⟩ := (show ObjOk X.prog X.w H s.heap a (.frz ob (.lst xs)) from I.hok a _ ea)
    exact PySem.W.kia_one PySem.W.kitx_list I.kIn ⟨_, h1, rfl⟩ e (fun z => nomatch z) h
  | @tup a xs ea =>
    cases (show u = Value.ref a from rx)
    obtain ⟨_, _, _, p⟩ := (show ObjOk X.prog X.w H s.heap a (.tup xs) from I.hok a _ ea)
    obtain ⟨o, h1, h2, _⟩ := p
    exact PySem.W.kia_one PySem.W.kitx_tuple I.kIn ⟨o, h1, h2⟩ e (fun z => nomatch z) h
  | @dK a kvs ea =>
    cases (show u = Value.ref a from rx)
    obtain ⟨_, _, vs, _, p⟩ := (show ObjOk X.prog X.w H s.heap a (.dK kvs) from I.hok a _ ea)
    obtain ⟨o, es, ep, h1, h2, _⟩ := p
    exact PySem.W.kia_one PySem.W.kitx_dict I.kIn ⟨o, h1, h2.1⟩ e (fun z => nomatch z) h
  | @dT a kvs ea =>
    cases (show u = Value.ref a from rx)
    obtain ⟨_, _, xs, _, o, es, ep, h1, h2, _⟩ := (show ObjOk X.prog X.w H s.heap a (.dT kvs) from I.hok a _ ea)
    exact PySem.W.kia_one PySem.W.kitx_dict I.kIn ⟨o, h1, h2.1⟩ e (fun z => nomatch z) h
  | @ins a C dx fs ea cl ha hn htk hm =>
    cases (show u = Value.ref a from rx)
    obtain ⟨mA, O, _⟩ := ins_get I.hok ea
    obtain ⟨od, J, _⟩ := O.look
    exact PySem.W.kia_one (PySem.W.kitx_own (cl.get _) cl.hd ha hn htk hm) I.kIn J e (fun z => nomatch z) h
end
end L2

namespace L2
open PySem PySem.Spec PyProof.Rows

/-! ### room -/
structure Room (k : Nat) (A : Around) : Prop where
  hd : A.handled = none
  dp : A.depth + 3 * k + 5 < recursionLimit
  un : A.units + 16 * k + 200 < cLine
theorem Room.mono {j k : Nat} {A : Around} (r : Room k A) (h : j ≤ k) : Room j A := ⟨r.hd, by have := r.dp; omega, by have := r.un; omega⟩
theorem Room.deeper {k : Nat} {A : Around} (r : Room (k + 1) A) (env : Env) : Room k (A.deeper env) :=
  ⟨r.hd, by have := r.dp; show A.depth + 1 + 3 * k + 5 < _; omega, by have := r.un; show A.units + 3 + 16 * k + 200 < _; omega⟩
theorem Room.in1 {k : Nat} {A : Around} (r : Room (k + 1) A) : Room k A.in1 :=
  ⟨r.hd, by have := r.dp; show A.depth + 3 * k + 5 < _; omega, by have := r.un; show A.units + 1 + 16 * k + 200 < _; omega⟩
theorem make_depth {A : Around} {C : Addr} {us : List Value} {kw : List (Str × Value)} : (A.under (.builtin "type.__call__" ⟨.ref C :: us, kw⟩)).depth = A.depth + 1 := by
  first | rfl | simp [Around.under, Code.weight, Code.isCreation, Code.isGuard, Code.isCaller, Code.frames, Code.isFrame, guardIds]
theorem make_units {A : Around} {C : Addr} {us : List Value} {kw : List (Str × Value)} : (A.under (.builtin "type.__call__" ⟨.ref C :: us, kw⟩)).units = A.units + 1 := by
  first | rfl | simp [Around.under, Code.cUnits, Code.frames, Code.isFrame]
theorem Room.make {k : Nat} {A : Around} (r : Room (k + 1) A) (C : Addr) (us : List Value) (kw : List (Str × Value)) : Room k (A.under (.builtin "type.__call__" ⟨.ref C :: us, kw⟩)) :=
  ⟨r.hd, by have := r.dp; rw [make_depth]; omega, by have := r.un; rw [make_units]; omega⟩
theorem Room.depth {k : Nat} {A : Around} (r : Room k A) : A.depth < recursionLimit := by have := r.dp; omega
theorem Room.units {k : Nat} {A : Around} (r : Room k A) : A.units + 64 < cLine := by have := r.un; omega
theorem Room.units0 {k : Nat} {A : Around} (r : Room k A) : A.units < cLine := by have := r.un; omega

/-! ### argument lists and displays -/
def tNil : TA := fun _ H Q => Q [] H
def tCons (ta : TE) (tr : TA) : TA := fun σ H Q => ta σ H fun x H1 => tr σ H1 fun xs H2 => Q (x :: xs) H2
section
variable {X : Cx} {e : Expr} {es : List Expr} {te : TE} {t : TA} {pos : Pos}
theorem pa_nil : PA X [] tNil := fun _ _ _ _ H Q I h => Calls.spliced_nil ⟨[], H, I, .nil, h⟩
theorem pa_cons (ha : PE X e te) (hr : PA X es t) (hs : starEach (e :: es) X.env = (false, eval e X.env) :: starEach es X.env := by rfl) : PA X (e :: es) (tCons te t) := by
  intro pos pins s σ H Q I h
  rw [hs]
  show wpAny _ _ (spliced ((false, eval e X.env) :: backTo pos (starEach es X.env))) _ _ s
  refine Calls.spliced_cons (thn (ha pins s σ H _ I h) fun u s1 ⟨x, H1, I1, r1, q1⟩ => ?_)
  exact thn (hr pos pins s1 σ H1 _ I1 q1) fun us s2 ⟨xs, H2, I2, r2, q2⟩ => ⟨x :: xs, H2, I2, .cons r1 r2, q2⟩

/-- a tuple, a list of written items -/
def tTup (t : TA) : TE := fun σ H Q => t σ H fun xs H1 => xs.length ≤ sizeLine ∧ ∀ p, H1 p = none → Q (.ref p) (upd H1 p (.tup xs))
def tLst (t : TA) : TE := fun σ H Q => t σ H fun xs H1 => xs.length ≤ sizeLine ∧ ∀ p, H1 p = none → Q (.ref p) (upd H1 p (.lst xs))
theorem pe_tup {x1} (h : PA X es t) : PE X (.Tuple es x1 pos) (tTup t) := by
  intro pins s σ H Q I hq
  refine wpAny_Tuple_spliced (thn (h pos pins s σ H _ I hq) fun us s1 ⟨xs, H1, I1, r, z, q⟩ => ⟨by rw [← r.length]; exact z, ?_⟩)
  have hf : H1 s1.heap.objs.size = none := I1.hok.fresh (Nat.le_refl _)
  refine ⟨.ref s1.heap.objs.size, upd H1 s1.heap.objs.size (.tup xs), I1.laid (t' := s1.toks) (fun b u e => Heap.get?_push_of_some _ e) (Nat.le_refl _) ?_, rfl, q _ hf⟩
  exact ⟨z, us, r, ⟨_, Heap.get?_push_size _ rfl, rfl, _, rfl⟩⟩
theorem pe_lst (h : PA X es t) : PE X (.List es pos) (tLst t) := by
  intro pins s σ H Q I hq
  refine wpAny_List_spliced (thn (h pos pins s σ H _ I hq) fun us s1 ⟨xs, H1, I1, r, z, q⟩ => ⟨by rw [← r.length]; exact z, ?_⟩)
  have hf : H1 s1.heap.objs.size = none := I1.hok.fresh (Nat.le_refl _)
  refine ⟨.ref s1.heap.objs.size, upd H1 s1.heap.objs.size (.lst xs), I1.laid (t' := s1.toks) (fun b u e => Heap.get?_push_of_some _ e) (Nat.le_refl _) ?_, rfl, q _ hf⟩
  exact ⟨z, us, 0, r, Heap.get?_push_size _ rfl⟩
end

/-! ### what a def promises -/
/-- a def's promise: the bound arguments in the parameters' order, the heap, the wanted end, the wanted exception -/
abbrev Sp := List V → Hp → VK → XK → Prop
/-- how an exception lies behind a call (file 08 gives it): the callers' frames, abstract heap and state ahead of the call, the wish, the exception, the state -/
abbrev CXT := List Env → Hp → Shared → XK → Value → Shared → Prop

/-- the state at a call -/
structure Env0 (P : Program) (w : World) (K : PySem.W.Frag) (mg : Str → Option Value) (base : Heap) (A : Around) (outer : List Env) (s : Shared) (H : Hp) : Prop where
  frames : A.frames = some outer
  mod : Mod K mg base
  bs : ∀ b o, base.get? b = some o → s.heap.get? b = some o ∧ H b = none
  bsz : base.objs.size ≤ s.heap.objs.size
  funs : s.heap.FunFrames base outer
  frf : ∀ b ∈ frs outer, H b = none
  hok : HOk P w H s.heap
  bare : AllBare s.gens
/-- a call's end -/
def CE (outer : List Env) (P : Program) (w : World) (H : Hp) (s : Shared) (Q : VK) (u : Value) (s' : Shared) : Prop :=
  ∃ v H', s'.os = s.os ∧ AllBare s'.gens ∧ Un (frs outer) [] H H' s.heap s'.heap ∧ HOk P w H' s'.heap ∧ RelV v u ∧ Q v H'
def CR (CX : CXT) (outer : List Env) (P : Program) (w : World) (H : Hp) (s : Shared) (Q : VK) (E : XK) (r : Result) (s' : Shared) : Prop :=
  match r with
  | .ok (.ret u) => CE outer P w H s Q u s'
  | .ok _ => False
  | .error e => CX outer H s E e s'
structure FnOk (P : Program) (w : World) (K : PySem.W.Frag) (mg : Str → Option Value) (base : Heap) (CX : CXT) (k : Nat) (f : Addr) (fd : FuncData) (ps : List Str) (sp : Sp) : Prop where
  len : ∀ vs H Q E, sp vs H Q E → vs.length = ps.length
  run : ∀ (A : Around) (outer : List Env) (s : Shared) (H : Hp) (args : Args) (us : List Value) (vs : List V) (Q : VK) (E : XK), Room k A → Env0 P w K mg base A outer s H → BindsTo s fd args (ps.zip us) → Vals vs us → sp vs H Q E →
    codeAny (model P w) A (.call (.ref f) args) (CR CX outer P w H s Q E) s
theorem FnOk.mono {P : Program} {w : World} {K : PySem.W.Frag} {mg : Str → Option Value} {base : Heap} {CX : CXT} {j k : Nat} {f : Addr} {fd : FuncData} {ps : List Str} {sp : Sp} (F : FnOk P w K mg base CX j f fd ps sp) (h : j ≤ k) :
    FnOk P w K mg base CX k f fd ps sp := ⟨F.len, fun A outer s H args us vs Q E hr => F.run A outer s H args us vs Q E (hr.mono h)⟩
/-- a weaker promise -/
theorem FnOk.imp {P : Program} {w : World} {K : PySem.W.Frag} {mg : Str → Option Value} {base : Heap} {CX : CXT} {k : Nat} {f : Addr} {fd : FuncData} {ps : List Str} {sp sp' : Sp} (F : FnOk P w K mg base CX k f fd ps sp)
    (h : ∀ vs H Q E, sp' vs H Q E → sp vs H Q E) : FnOk P w K mg base CX k f fd ps sp' :=
  ⟨fun vs H Q E q => F.len vs H Q E (h _ _ _ _ q), fun A outer s H args us vs Q E hr he hb hv hs => F.run A outer s H args us vs Q E hr he hb hv (h _ _ _ _ hs)⟩

theorem Env0.make {P : Program} {w : World} {K : PySem.W.Frag} {mg : Str → Option Value} {base : Heap} {A : Around} {outer : List Env} {s : Shared} {H : Hp} (e : Env0 P w K mg base A outer s H) (C : Addr) (us : List Value) (kw : List (Str × Value)) :
    Env0 P w K mg base (A.under (.builtin "type.__call__" ⟨.ref C :: us, kw⟩)) outer s H := ⟨by first | exact e.frames | (simpa [Around.under, Code.envs, Code.isFrame, pushEnvs] using e.frames), e.mod, e.bs, e.bsz, e.funs, e.frf, e.hok, e.bare⟩
theorem Env0.in1 {P : Program} {w : World} {K : PySem.W.Frag} {mg : Str → Option Value} {base : Heap} {A : Around} {outer : List Env} {s : Shared} {H : Hp} (e : Env0 P w K mg base A outer s H) :
    Env0 P w K mg base A.in1 outer s H := ⟨e.frames, e.mod, e.bs, e.bsz, e.funs, e.frf, e.hok, e.bare⟩

section
variable {X : Cx} {pins : List (Addr × Obj)} {σ : St} {H : Hp} {s s' : Shared}
/-- from a body: what a callee wants -/
theorem Inv.env0 (I : Inv X pins σ H s) : Env0 X.prog X.w X.K X.mg X.base X.A X.stack s H :=
  ⟨I.ok.frames, I.ok.mod, I.bs, Nat.le_trans I.ok.bsz I.sz, I.stack, I.stkFree, I.hok, I.bare⟩
/-- behind a call -/
theorem Inv.after {Q : VK} {u : Value} (I : Inv X pins σ H s) (h : CE X.stack X.prog X.w H s Q u s') : EP X pins σ Q u s' := by
  obtain ⟨v, H', os, bare, un, hok, r, q⟩ := h
  obtain ⟨hh, g, d, t, os'⟩ := s'
  obtain rfl : os' = s.os := os
  exact ⟨v, H', I.call (h' := hh) (g' := g) (d' := d) (t' := t) (ch := []) un hok bare (fun b z => absurd z (by simp)), r, q⟩
end

/-! ### calls -/
/-- f(..): the written arguments, then the defaults dvs; E: what is wanted of an exception -/
def tCall (sp : Sp) (dvs : List V) (E : XK) (t : TA) : TE := fun σ H Q => t σ H fun vs H1 => sp (vs ++ dvs) H1 Q E
/-- o.m(..) of an instance of the class at C -/
def tMeth (C : Addr) (m : Str) (sp : Sp) (dvs : List V) (E : XK) (ta : TE) (t : TA) : TE := fun σ H Q => ta σ H fun x H1 => ∃ a dx fs, x = .ref a ∧ H1 a = some (.ins C dx fs) ∧ fs.lookup m = none ∧
  t σ H1 fun vs H2 => sp (x :: (vs ++ dvs)) H2 Q E
/-- C(..): a new instance and its dict, then __init__ -/
def tMake (C : Addr) (sp : Sp) (dvs : List V) (E : XK) (t : TA) : TE := fun σ H Q => t σ H fun vs H1 => ∀ x dx, H1 x = none → H1 dx = none → dx ≠ x →
  sp (.ref x :: (vs ++ dvs)) (upd (upd H1 dx (.own x)) x (.ins C dx [])) (fun v H2 => v = .non ∧ Q (.ref x) H2) E

/-- how the parameters are bound: us the positional arguments, kw the keywords' values by name, ds the defaults that fill up -/
def Binds (K : PySem.W.Frag) (fd : FuncData) (ps : List Str) (ds : List Value) : Prop :=
  ∀ (s : Shared) (us : List Value), K.In s.heap → (us ++ ds).length = ps.length → BindsTo s fd ⟨us, []⟩ (ps.zip (us ++ ds))
/-- every parameter is given -/
theorem Binds.all {K : PySem.W.Frag} {fd : FuncData} {ps : List Str} (h : ∀ us : List Value, us.length = ps.length → bindArgs fd ⟨us, []⟩ = pure (ps.zip us)) : Binds K fd ps [] := fun s us _ hl => by
  rw [List.append_nil] at hl ⊢
  exact .of_eq (h us hl)

/-- an exception of a callee reaches what this body wants of exceptions -/
def Passes (CX : CXT) (X : Cx) (E : XK) : Prop := ∀ (pins : List (Addr × Obj)) (σ : St) (H : Hp) (s : Shared) (e : Value) (s' : Shared), Inv X pins σ H s → CX X.stack H s E e s' → X.xe e s'

section
variable {X : Cx} {CX : CXT} {k : Nat} {f C : Addr} {fd : FuncData} {ps : List Str} {sp : Sp} {dvs : List V} {ds : List Value} {E : XK} {x m : Str} {p pos apos : Pos} {e o : Expr} {es : List Expr} {ta : TE} {t : TA}

/-- the callee runs -/
theorem run_fn {pins : List (Addr × Obj)} {σ : St} {H : Hp} {s : Shared} {Q : VK} {us : List Value} {vs : List V} (F : FnOk X.prog X.w X.K X.mg X.base CX k f fd ps sp) (hr : Room k X.A) (hb : Binds X.K fd ps ds) (hd : Vals dvs ds) (hx : Passes CX X E)
    (I : Inv X pins σ H s) (r : Vals vs us) (h : sp (vs ++ dvs) H Q E) : wpAny (model X.prog X.w) X.A (call (.ref f) us) (EP X pins σ Q) X.xe s := by
  have r2 : Vals (vs ++ dvs) (us ++ ds) := r.append hd
  have hl : (us ++ ds).length = ps.length := by rw [← r2.length]; exact F.len _ _ _ _ h
  refine wpAny_call (codeAny_mono (F.run X.A X.stack s H ⟨us, []⟩ (us ++ ds) (vs ++ dvs) Q E hr I.env0 (hb s us I.kIn hl) r2 h) fun r s' hq => ?_)
  cases r with
  | error e => exact hx pins σ H s e s' I hq
  | ok fl =>
    cases fl with
    | ret u => exact I.after hq
    | next => exact False.elim hq
    | brk => exact False.elim hq
    | cont => exact False.elim hq

theorem pe_call (F : FnOk X.prog X.w X.K X.mg X.base CX k f fd ps sp) (hr : Room k X.A) (hg : Gl X x) (hm : X.mg x = some (.ref f)) (hk : PySem.W.keepIn X.K (.ref f) = true) (hb : Binds X.K fd ps ds) (hd : Vals dvs ds) (hx : Passes CX X E)
    (ha : PA X (e :: es) t) (hdb : (x == ("__debug__" : Str)) = false := by decide) (he : starEach (e :: es) X.env = (false, eval e X.env) :: starEach es X.env := by rfl) (hpl : (backTo pos (starEach es X.env)).any (·.1) = false := by rfl) :
    PE X (.Call (.Name x p) (e :: es) [] pos) (tCall sp dvs E t) := by
  intro pins s σ H Q I h
  refine wpAny_Call_Name_kw (ld_glob I hg hm ?_ hdb)
  refine PySem.W.callWith_K (h₀ := X.base) I.ok.mod.kin hk (thn (ha pos pins s σ H _ I h) fun us s1 ⟨vs, H1, I1, r, q⟩ => ⟨I1.kIn, ?_⟩) he hpl
  exact run_fn F hr hb hd hx I1 r q
theorem pe_call0 (F : FnOk X.prog X.w X.K X.mg X.base CX k f fd ps sp) (hr : Room k X.A) (hg : Gl X x) (hm : X.mg x = some (.ref f)) (hk : PySem.W.keepIn X.K (.ref f) = true) (hb : Binds X.K fd ps ds) (hd : Vals dvs ds) (hx : Passes CX X E)
    (hdb : (x == ("__debug__" : Str)) = false := by decide) : PE X (.Call (.Name x p) [] [] pos) (tCall sp dvs E tNil) := by
  intro pins s σ H Q I h
  refine wpAny_Call_Name_kw (ld_glob I hg hm ?_ hdb)
  exact PySem.W.callWith_K0 I.kIn hk (run_fn (us := []) F hr hb hd hx I .nil h)

/-- o.m(e, ..) -/
theorem pe_meth {pl : Sem Bool} (he : PE X o ta) (c : Cls X.K C) (hm : Meth X.K C m f) (F : FnOk X.prog X.w X.K X.mg X.base CX k f fd ps sp) (hr : Room k X.A) (hb : Binds X.K fd ps ds) (hd : Vals dvs ds) (hx : Passes CX X E) (ha : PA X (e :: es) t)
    (hst : starEach (e :: es) X.env = (false, eval e X.env) :: starEach es X.env := by rfl) (hpl : (backTo pos (starEach es X.env)).any (·.1) = false := by rfl)
    (ht : eval (.Call (.Attribute o m apos) (e :: es) [] pos) X.env = (do
      let ov ← eval o X.env
      standAt apos.atName
      let (f, first) ← holding [ov] (getMethod ov m pl)
      callWith pos f first (backTo pos (starEach (e :: es) X.env)) (backToKw pos (keywordEach [] X.env))) := by rfl) :
    PE X (.Call (.Attribute o m apos) (e :: es) [] pos) (tMeth C m sp dvs E ta t) := by
  intro pins s σ H Q I h
  refine PySem.W.methodCall_KW (pl := pl) (thn (he pins s σ H _ I h) fun u s1 ⟨x, H1, I1, rx, a, dx, fs, ex, ea, l, q⟩ => ?_) ht
  subst ex
  obtain rfl : u = Value.ref a := rx
  refine getmeth_ok I1 ea c hm l ?_
  refine PySem.W.callWith_K (first := [.ref a]) (h₀ := X.base) I.ok.mod.kin hm.kp (thn (ha pos pins s1 σ H1 _ I1 q) fun us s2 ⟨vs, H2, I2, r, q2⟩ => ⟨I2.kIn, ?_⟩) hst hpl
  exact run_fn (us := .ref a :: us) (vs := .ref a :: vs) F hr hb hd hx I2 (.cons rfl r) q2
/-- o.m() -/
theorem pe_meth0 {pl : Sem Bool} (he : PE X o ta) (c : Cls X.K C) (hm : Meth X.K C m f) (F : FnOk X.prog X.w X.K X.mg X.base CX k f fd ps sp) (hr : Room k X.A) (hb : Binds X.K fd ps ds) (hd : Vals dvs ds) (hx : Passes CX X E)
    (ht : eval (.Call (.Attribute o m apos) [] [] pos) X.env = (do
      let ov ← eval o X.env
      standAt apos.atName
      let (f, first) ← holding [ov] (getMethod ov m pl)
      callWith pos f first (backTo pos (starEach [] X.env)) (backToKw pos (keywordEach [] X.env))) := by rfl) :
    PE X (.Call (.Attribute o m apos) [] [] pos) (tMeth C m sp dvs E ta tNil) := by
  intro pins s σ H Q I h
  refine PySem.W.methodCall_KW (pl := pl) (thn (he pins s σ H _ I h) fun u s1 ⟨x, H1, I1, rx, a, dx, fs, ex, ea, l, q⟩ => ?_) ht
  subst ex
  obtain rfl : u = Value.ref a := rx
  refine getmeth_ok I1 ea c hm l ?_
  exact PySem.W.callWith_K0 (first := [.ref a]) I1.kIn hm.kp (run_fn (us := [.ref a]) (vs := [.ref a]) F hr hb hd hx I1 (.cons rfl .nil) q)

/-- what a class must have to be made -/
structure Mk (K : PySem.W.Frag) (C f : Addr) : Prop where
  makes : PySem.W.makesIn K C = true
  init : PySem.W.findIn K (.ref C) "__init__" = some (some (.ref f))
  fn : PySem.W.isFn K (.ref f) = true
  kp : PySem.W.keepIn K (.ref C) = true

theorem run_make {pins : List (Addr × Obj)} {σ : St} {H : Hp} {s : Shared} {Q : VK} {us : List Value} {vs : List V} (M : Mk X.K C f) (F : FnOk X.prog X.w X.K X.mg X.base CX k f fd ps sp) (hr : Room (k + 1) X.A) (hb : Binds X.K fd ps ds) (hd : Vals dvs ds)
    (hx : Passes CX X E) (I : Inv X pins σ H s) (r : Vals vs us)
    (h : ∀ x dx, H x = none → H dx = none → dx ≠ x → sp (.ref x :: (vs ++ dvs)) (upd (upd H dx (.own x)) x (.ins C dx [])) (fun v H2 => v = .non ∧ Q (.ref x) H2) E) :
    wpAny (model X.prog X.w) X.A (call (.ref C) us) (EP X pins σ Q) X.xe s := by
  have hq := h (s.heap.objs.size + 1) s.heap.objs.size (I.hok.fresh (Nat.le_succ _)) (I.hok.fresh (Nat.le_refl _)) (Nat.ne_of_lt (Nat.lt_succ_self _))
  have I2 := Inv.made (C := C) I
  have r2 : Vals (V.ref (s.heap.objs.size + 1) :: (vs ++ dvs)) (Value.ref (s.heap.objs.size + 1) :: (us ++ ds)) := .cons rfl (r.append hd)
  have hl : (Value.ref (s.heap.objs.size + 1) :: us ++ ds).length = ps.length := by
    have e := r2.length
    rw [F.len _ _ _ _ hq] at e
    exact e.symm
  refine wpAny_call (make_map (f := f) I.kIn M.makes M.init (beq_iff_eq.mp M.fn) (codeAny_mono (F.run _ X.stack _ _ ⟨Value.ref (s.heap.objs.size + 1) :: us, []⟩ (Value.ref (s.heap.objs.size + 1) :: (us ++ ds)) _ _ E (hr.make C us [])
    (I2.env0.make C us []) (hb _ (Value.ref (s.heap.objs.size + 1) :: us) I2.kIn hl) r2 hq) fun r s' hq' => ?_))
  cases r with
  | error e => exact hx pins σ _ _ e s' I2 hq'
  | ok fl =>
    cases fl with
    | ret u =>
      obtain ⟨v, H', I3, rv, ev, q3⟩ := I2.after hq'
      subst ev
      exact ⟨rv, ⟨V.ref (s.heap.objs.size + 1), H', I3, rfl, q3⟩⟩
    | next => exact False.elim hq'
    | brk => exact False.elim hq'
    | cont => exact False.elim hq'
theorem pe_make (M : Mk X.K C f) (F : FnOk X.prog X.w X.K X.mg X.base CX k f fd ps sp) (hr : Room (k + 1) X.A) (hg : Gl X x) (hm : X.mg x = some (.ref C)) (hb : Binds X.K fd ps ds) (hd : Vals dvs ds) (hx : Passes CX X E)
    (ha : PA X (e :: es) t) (hdb : (x == ("__debug__" : Str)) = false := by decide) (he : starEach (e :: es) X.env = (false, eval e X.env) :: starEach es X.env := by rfl) (hpl : (backTo pos (starEach es X.env)).any (·.1) = false := by rfl) :
    PE X (.Call (.Name x p) (e :: es) [] pos) (tMake C sp dvs E t) := by
  intro pins s σ H Q I h
  refine wpAny_Call_Name_kw (ld_glob I hg hm ?_ hdb)
  refine PySem.W.callWith_K (h₀ := X.base) I.ok.mod.kin M.kp (thn (ha pos pins s σ H _ I h) fun us s1 ⟨vs, H1, I1, r, q⟩ => ⟨I1.kIn, ?_⟩) he hpl
  exact run_make M F hr hb hd hx I1 r q
theorem pe_make0 (M : Mk X.K C f) (F : FnOk X.prog X.w X.K X.mg X.base CX k f fd ps sp) (hr : Room (k + 1) X.A) (hg : Gl X x) (hm : X.mg x = some (.ref C)) (hb : Binds X.K fd ps ds) (hd : Vals dvs ds) (hx : Passes CX X E)
    (hdb : (x == ("__debug__" : Str)) = false := by decide) : PE X (.Call (.Name x p) [] [] pos) (tMake C sp dvs E tNil) := by
  intro pins s σ H Q I h
  refine wpAny_Call_Name_kw (ld_glob I hg hm ?_ hdb)
  exact PySem.W.callWith_K0 I.kIn M.kp (run_make (us := []) M F hr hb hd hx I .nil h)
end

/-! ### keywords -/
/-- the values of the keywords, from the left -/
def PK (X : Cx) (kws : List Keyword) (t : TA) : Prop :=
  ∀ (pos : Pos) (pins : List (Addr × Obj)) (s : Shared) (σ : St) (H : Hp) (Q : List V → Hp → Prop), Inv X pins σ H s → t σ H Q → wpAny (model X.prog X.w) X.A (evalAll ((backToKw pos (keywordEach kws X.env)).map (·.2))) (AP X pins σ Q) X.xe s
section
variable {X : Cx} {CX : CXT} {k : Nat} {f C : Addr} {fd : FuncData} {ps ks : List Str} {sp : Sp} {E : XK} {x m : Str} {p pos apos kpos : Pos} {e o : Expr} {es : List Expr} {kws : List Keyword} {te ta : TE} {t tk : TA} {nm : Option Str}
theorem pk_nil : PK X [] tNil := fun _ _ _ _ H Q I h => wpAny_evalAll_nil ⟨[], H, I, .nil, h⟩
theorem pk_cons (ha : PE X e te) (hr : PK X kws t) : PK X (⟨nm, e, kpos⟩ :: kws) (tCons te t) := by
  intro pos pins s σ H Q I h
  show wpAny _ _ (evalAll ((do let v ← eval e X.env; standAt pos; pure v) :: (backToKw pos (keywordEach kws X.env)).map (·.2))) _ _ s
  refine wpAny_evalAll_cons (wpAny_bind (thn (ha pins s σ H _ I h) fun u s1 ⟨x, H1, I1, r1, q1⟩ => wpAny_bind (wpAny_standAt (wpAny_pure ?_))))
  exact thn (hr pos pins s1 σ H1 _ I1 q1) fun us s2 ⟨xs, H2, I2, r2, q2⟩ => ⟨x :: xs, H2, I2, .cons r1 r2, q2⟩

/-- how a call with keywords binds: g puts the positional values us and the keywords' values ws (names ks) in the parameters' order, defaults among them -/
structure KBinds (K : PySem.W.Frag) (fd : FuncData) (ps ks : List Str) (g : List Value → List Value → List Value) (gV : List V → List V → List V) : Prop where
  to : ∀ (s : Shared) (us ws : List Value), K.In s.heap → (g us ws).length = ps.length → BindsTo s fd ⟨us, ks.zip ws⟩ (ps.zip (g us ws))
  rel : ∀ {vs : List V} {us : List Value} {zs : List V} {ws : List Value}, Vals vs us → Vals zs ws → Vals (gV vs zs) (g us ws)
def tCallK (sp : Sp) (gV : List V → List V → List V) (E : XK) (t tk : TA) : TE := fun σ H Q => t σ H fun vs H1 => tk σ H1 fun zs H2 => sp (gV vs zs) H2 Q E
variable {g : List Value → List Value → List Value} {gV : List V → List V → List V}
theorem run_fnk {pins : List (Addr × Obj)} {σ : St} {H : Hp} {s : Shared} {Q : VK} {us ws : List Value} {vs zs : List V} (F : FnOk X.prog X.w X.K X.mg X.base CX k f fd ps sp) (hr : Room k X.A) (hb : KBinds X.K fd ps ks g gV) (hx : Passes CX X E)
    (I : Inv X pins σ H s) (r : Vals vs us) (rz : Vals zs ws) (h : sp (gV vs zs) H Q E) : wpAny (model X.prog X.w) X.A (call (.ref f) us (ks.zip ws)) (EP X pins σ Q) X.xe s := by
  have r2 := hb.rel r rz
  have hl : (g us ws).length = ps.length := by rw [← r2.length]; exact F.len _ _ _ _ h
  refine wpAny_call (codeAny_mono (F.run X.A X.stack s H ⟨us, ks.zip ws⟩ (g us ws) (gV vs zs) Q E hr I.env0 (hb.to s us ws I.kIn hl) r2 h) fun r s' hq => ?_)
  cases r with
  | error e => exact hx pins σ H s e s' I hq
  | ok fl =>
    cases fl with
    | ret u => exact I.after hq
    | next => exact False.elim hq
    | brk => exact False.elim hq
    | cont => exact False.elim hq
/-- f(e, .., k = v, ..) -/
theorem pe_callK (F : FnOk X.prog X.w X.K X.mg X.base CX k f fd ps sp) (hr : Room k X.A) (hg : Gl X x) (hm : X.mg x = some (.ref f)) (hk : PySem.W.keepIn X.K (.ref f) = true) (hb : KBinds X.K fd ps ks g gV) (hx : Passes CX X E)
    (ha : PA X (e :: es) t) (hkw : PK X kws tk) (hall : (backToKw pos (keywordEach kws X.env)).all (·.1.isSome) = true := by rfl) (hks : (backToKw pos (keywordEach kws X.env)).filterMap (·.1) = ks := by rfl)
    (hdb : (x == ("__debug__" : Str)) = false := by decide) (he : starEach (e :: es) X.env = (false, eval e X.env) :: starEach es X.env := by rfl)
    (hpl : ((backTo pos (starEach (e :: es) X.env)).any (·.1) || (backToKw pos (keywordEach kws X.env)).any (·.1.isNone)) = false := by rfl) :
    PE X (.Call (.Name x p) (e :: es) kws pos) (tCallK sp gV E t tk) := by
  intro pins s σ H Q I h
  refine wpAny_Call_Name_kw (ld_glob I hg hm ?_ hdb)
  refine PySem.W.callWith_KW (h₀ := X.base) I.ok.mod.kin hk hall (thn (ha pos pins s σ H _ I h) fun us s1 ⟨vs, H1, I1, r, q⟩ => ?_) hpl he
  refine thn (hkw pos pins s1 σ H1 _ I1 q) fun ws s2 ⟨zs, H2, I2, rz, q2⟩ => ⟨I2.kIn, ?_⟩
  rw [hks]
  exact run_fnk F hr hb hx I2 r rz q2
end

/-! ### a def's body keeps its promise -/
/-- names: the parameters first -/
structure FnScope (N P : List Str) (sc : Scope) : Prop where
  kind : sc.kind = .function
  co : sc.isCoroutine = false
  gen : sc.isGenerator = false
  nd : N.Nodup
  pre : N.take P.length = P
  par : ∀ x ∈ P, sc.names.lookup x = some .local ∨ sc.names.lookup x = some .cell
  nofree : ∀ y ∈ sc.names, y.2 ≠ .free

theorem bindL_out {kindOf : Str → Option NameKind} {x : Str} : ∀ {binds : List (Str × Value)} {m : Str → Option Value}, (∀ v, (x, v) ∉ binds) → bindL kindOf binds m x = m x
  | [], _, _ => rfl
  | (n, v) :: r, m, h => by
    unfold bindL
    rw [bindL_out fun w hw => h w (List.mem_cons_of_mem _ hw)]
    split
    · have : x ≠ n := by rintro rfl; exact h v List.mem_cons_self
      simp [this]
    · rfl
theorem bindC_out {kindOf : Str → Option NameKind} {x : Str} : ∀ {binds : List (Str × Value)} {m : Str → Option Value}, (∀ v, (x, v) ∉ binds) → bindC kindOf binds m x = m x
  | [], _, _ => rfl
  | (n, v) :: r, m, h => by
    unfold bindC
    rw [bindC_out fun w hw => h w (List.mem_cons_of_mem _ hw)]
    split
    · rfl
    · have : x ≠ n := by rintro rfl; exact h v List.mem_cons_self
      simp [this]
theorem bindL_get {kindOf : Str → Option NameKind} {x : Str} {v : Value} : ∀ {P : List Str} {vs : List Value} {i : Nat} {m : Str → Option Value}, P.Nodup → P[i]? = some x → vs[i]? = some v → kindOf x = some .local →
    bindL kindOf (P.zip vs) m x = some v
  | [], _, _, _, _, h, _, _ => by simp at h
  | _ :: _, [], _, _, _, _, h, _ => by simp at h
  | p :: P, w :: vs, 0, m, nd, h1, h2, hk => by
    simp at h1 h2; subst h1; subst h2
    show bindL kindOf ((p, w) :: P.zip vs) m p = _
    unfold bindL
    rw [bindL_out fun v hv => (List.nodup_cons.mp nd).1 (List.of_mem_zip hv).1, if_pos hk]
    simp
  | p :: P, w :: vs, i + 1, m, nd, h1, h2, hk => by
    show bindL kindOf ((p, w) :: P.zip vs) m x = _
    unfold bindL
    exact bindL_get (i := i) (List.nodup_cons.mp nd).2 (by simpa using h1) (by simpa using h2) hk
theorem bindC_get {kindOf : Str → Option NameKind} {x : Str} {v : Value} : ∀ {P : List Str} {vs : List Value} {i : Nat} {m : Str → Option Value}, P.Nodup → P[i]? = some x → vs[i]? = some v → kindOf x ≠ some .local →
    bindC kindOf (P.zip vs) m x = some v
  | [], _, _, _, _, h, _, _ => by simp at h
  | _ :: _, [], _, _, _, _, h, _ => by simp at h
  | p :: P, w :: vs, 0, m, nd, h1, h2, hk => by
    simp at h1 h2; subst h1; subst h2
    show bindC kindOf ((p, w) :: P.zip vs) m p = _
    unfold bindC
    rw [bindC_out fun v hv => (List.nodup_cons.mp nd).1 (List.of_mem_zip hv).1, if_neg hk]
    simp
  | p :: P, w :: vs, i + 1, m, nd, h1, h2, hk => by
    show bindC kindOf ((p, w) :: P.zip vs) m x = _
    unfold bindC
    exact bindC_get (i := i) (List.nodup_cons.mp nd).2 (by simpa using h1) (by simpa using h2) hk

/-- the names' values at the entry -/
def start (N : List Str) (vs : List V) : St := vs.map some ++ List.replicate (N.length - vs.length) none

/-- the context of a def's body, at its entry; an exception leaves the frame, then lies as CX says -/
def cxOf (CX : CXT) (P : Program) (w : World) (K : PySem.W.Frag) (mg : Str → Option Value) (base : Heap) (N : List Str) (qual : Str) (scope : Scope) (f : Addr) (cd : Value) (A : Around) (outer : List Env) (s : Shared) (H : Hp) (E : XK) : Cx where
  prog := P
  w := w
  K := K
  mg := mg
  base := base
  A := A.deeper (envOfC qual scope s.heap.objs.size f cd)
  N := N
  s₀ := s
  H₀ := H
  env := envOfC qual scope s.heap.objs.size f cd
  outer := outer
  stack := envOfC qual scope s.heap.objs.size f cd :: outer
  ex := []
  calm := true
  fn := fun _ => true
  pn := []
  xe := fun e s' => wpAny (model P w) (A.deeper (envOfC qual scope s.heap.objs.size f cd)) (leaving (envOfC qual scope s.heap.objs.size f cd) e) (fun _ s'' => CX outer H s E e s'') (fun e' s'' => CX outer H s E e' s'') s'

theorem cell_has {sc : Scope} {n : Nat} {x : Str} (h : sc.names.lookup x = some .cell) : ∃ c, (cellsFrom n sc.names []).lookup x = some c := by
  have q := PySem.W.cellsFrom_some sc.names n [] (.inl h)
  exact Option.isSome_iff_exists.mp q

theorem inv_start {CX : CXT} {P : Program} {w : World} {K : PySem.W.Frag} {mg : Str → Option Value} {base : Heap} {N ps : List Str} {qual : Str} {scope : Scope} {f : Addr} {cd : Value} {A : Around} {outer : List Env} {s s1 : Shared} {H : Hp} {E : XK} {us : List Value} {vs : List V}
    (S : FnScope N ps scope) (hd : A.handled = none) (e0 : Env0 P w K mg base A outer s H) (hl : vs.length = ps.length) (r : Vals vs us)
    (x : InCallC s s.heap.objs.size (bindL (envOfC qual scope s.heap.objs.size f cd).kindOf (ps.zip us) fun _ => none) (cellsFrom (s.heap.objs.size + 1) scope.names []) (bindC (envOfC qual scope s.heap.objs.size f cd).kindOf (ps.zip us) fun _ => none) s1) :
    Inv (cxOf CX P w K mg base N qual scope f cd A outer s H E) [] (start N vs) H s1 := by
  have hpl : ps.length ≤ N.length := by have := congrArg List.length S.pre; rw [List.length_take] at this; omega
  obtain ⟨h1, tk, rfl, hk⟩ := x.done
  have noA : ∀ b : Addr, b ∉ (cxOf CX P w K mg base N qual scope f cd A outer s H E).ex := fun b z => absurd (show b ∈ ([] : List Addr) from z) (by simp)
  refine ⟨⟨e0.mod, S.kind, rfl, rfl, Nat.le_refl _, fun y z c h1 h2 => ?_, fun y hy => ?_, fun y c _ h => ?_, fun _ => hd, Around.frames_deeper e0.frames, .inr ⟨rfl, rfl⟩, fun b z => absurd z (noA b), e0.bs, e0.bsz, fun b _ _ => noA b, fun b z => absurd z (noA b), e0.funs, e0.frf⟩,
    rfl, e0.bare, Un.kept hk, ⟨_, x.toInCall.ns, fun i y v h1 h2 h3 => ?_⟩, fun y c h => ⟨_, x.cell y c h⟩, e0.hok.fresh (Nat.le_refl _), fun y c h => ?_, fun p hp => absurd (show p ∈ ([] : List (Addr × Obj)) from hp) (by simp), e0.hok.kept hk, ?_⟩
  · exact name_of_addr x.apart (PySem.mem_of_lookup h1) (PySem.mem_of_lookup h2)
  · have hy : scope.names.lookup y = some .cell ∨ scope.names.lookup y = some .free := hy
    rcases hy with hy | hy
    · exact cell_has hy
    · exact absurd rfl (S.nofree _ (PySem.mem_of_lookup hy))
  · exact Nat.le_of_lt (x.above y c (PySem.mem_of_lookup h))
  · have hi : i < vs.length := by
      unfold start at h2
      by_cases hi : i < vs.length
      · exact hi
      · rw [List.getElem?_append_right (by simpa using hi)] at h2
        rw [List.getElem?_replicate] at h2
        split at h2 <;> cases h2
    have ha : vs[i]? = some v := by
      unfold start at h2
      rw [List.getElem?_append_left (by simpa using hi), List.getElem?_map] at h2
      cases e : vs[i]? with
      | none => rw [e] at h2; cases h2
      | some a => rw [e] at h2; cases h2; rfl
    obtain ⟨u, hu, rv⟩ := r.get ha
    have hp : ps[i]? = some y := by
      rw [← S.pre, List.getElem?_take_of_lt (by omega)]; exact h1
    have ndP : ps.Nodup := by rw [← S.pre]; exact S.nd.sublist (List.take_sublist _ _)
    refine ⟨u, rv, ?_⟩
    rcases S.par y (List.mem_of_getElem? hp) with k | k
    · exact .inl ⟨k, bindL_get ndP hp hu k⟩
    · obtain ⟨c, e⟩ := cell_has (n := s.heap.objs.size + 1) k
      refine .inr ⟨.inl k, c, e, ?_⟩
      have q := x.cell y c e
      rw [bindC_get ndP hp hu (by show scope.names.lookup y ≠ _; rw [k]; decide)] at q
      exact q
  · exact e0.hok.fresh (Nat.le_of_lt (x.above y c (PySem.mem_of_lookup h)))
  · unfold start
    show _ = N.length
    rw [List.length_append, List.length_map, List.length_replicate]
    omega

/-- THE RULE: a def (or a method) of the text, by its body. The body's reading t is chosen for each entry; it is run at the parameters' values -/
theorem fn_of {CX : CXT} {P : Program} {w : World} {K : PySem.W.Frag} {mg : Str → Option Value} {base : Heap} {k : Nat} {f : Addr} {name qual : Str} {params : Arguments} {body : List Stmt} {scope : Scope} {dV kV doc pm cdv ct oc : Value} {an od : Option Addr}
    {osl : Array (Option Value)} {N ps : List Str} {sp : Sp} (lk : K.lookup f = some ⟨oc, od, .func (PySem.W.fnOf name qual params body scope dV kV doc pm an cdv ct), osl⟩) (hcd : PySem.W.codeIn K cdv qual = true) (S : FnScope N ps scope)
    (len : ∀ vs H Q E, sp vs H Q E → vs.length = ps.length)
    (hbody : ∀ (A : Around) (outer : List Env) (s : Shared) (H : Hp) (vs : List V) (Q : VK) (E : XK), Room k (A.deeper (envOfC qual scope s.heap.objs.size f cdv)) → sp vs H Q E →
      ∃ t, PSs (cxOf CX P w K mg base N qual scope f cdv A outer s H E) body t ∧ t { nx := fun _ H' => Q .non H', rt := Q } (start N vs) H) :
    FnOk P w K mg base CX (k + 1) f (PySem.W.fnOf name qual params body scope dV kV doc pm an cdv ct) ps sp := by
  refine ⟨len, fun A outer s H args us vs Q E hr e0 hb r hsp => ?_⟩
  have hl := len _ _ _ _ hsp
  have KX : K.In s.heap := e0.mod.kin.keeps fun b o e => (e0.bs b o e).1
  have lim : s.heap.NoLimit := e0.mod.nolimit.keeps fun b o e => (e0.bs b o e).1
  have hkind : ∀ y ∈ ps.zip us, scope.names.lookup y.1 = some .local ∨ (scope.names.lookup y.1 = some .cell ∧ ((cellsFrom (s.heap.objs.size + 1) scope.names []).lookup y.1).isSome = true) := fun ⟨n, v⟩ hy => by
    rcases S.par n (List.of_mem_zip hy).1 with q | q
    · exact .inl q
    · exact .inr ⟨q, PySem.W.cellsFrom_some _ _ _ (.inl q)⟩
  refine codeAny_call_function hr.depth (KX _ _ lk) rfl S.co S.gen rfl (PySem.W.codeRec_of KX hcd) (hb _ _ _ _ ?_)
  refine wpAny_newFunctionEnv_cells S.kind hkind fun env he s1 x => ?_
  subst he
  refine ⟨lim.keeps x.toInCall.keep, codeAny_func ?_⟩
  obtain ⟨t, ht, hq⟩ := hbody A outer s H vs Q E (hr.deeper _) hsp
  have I : Inv (cxOf CX P w K mg base N qual scope f cdv A outer s H E) [] (start N vs) H s1 := inv_start S hr.hd e0 hl r x
  refine wpAny_mono (ht [] s1 (start N vs) H _ I hq) (fun fl s' hs => ?_) fun e s' hs => hs
  have fin : ∀ {σ' : St} {H' : Hp} {v : V} {u : Value}, Inv (cxOf CX P w K mg base N qual scope f cdv A outer s H E) [] σ' H' s' → RelV v u → Q v H' → CE outer P w H s Q u s' :=
    fun {σ' H' v u} J rv q => ⟨v, H', J.os, J.bare, J.base, J.hok, rv, q⟩
  cases fl with
  | ret u =>
    obtain ⟨v, σ', H', J, rv, q⟩ := hs
    exact fin J rv q
  | next =>
    obtain ⟨σ', H', J, q⟩ := hs
    exact fin (v := V.non) (u := Value.none) J rfl q
  | brk =>
    obtain ⟨_, _, _, q⟩ := hs
    exact False.elim q
  | cont =>
    obtain ⟨_, _, _, q⟩ := hs
    exact False.elim q
end L2

namespace L2
open PySem PySem.Spec PyProof.Rows
section
variable {X : Cx} {x : Str} {p pos : Pos} {e : Expr} {es : List Expr} {t : TA} {id T : String} {r : List V → Hp → VK → Prop}

def tCB (r : List V → Hp → VK → Prop) (t : TA) : TE := fun σ H Q => t σ H fun vs H1 => r vs H1 Q
/-- f(e, ..), f a built-in function -/
theorem pe_callB (hc : CallR X (.builtin id) r) (hg : Gl X x) (hm : X.mg x = none) (hv : bootBuiltins x = some (.builtin id)) (ha : PA X (e :: es) t) (hn : x ≠ "__name__" := by decide) (hdb : (x == ("__debug__" : Str)) = false := by decide)
    (he : starEach (e :: es) X.env = (false, eval e X.env) :: starEach es X.env := by rfl) (hpl : (backTo pos (starEach es X.env)).any (·.1) = false := by rfl) : PE X (.Call (.Name x p) (e :: es) [] pos) (tCB r t) := by
  intro pins s σ H Q I h
  refine wpAny_Call_Name_kw (ld_blt I hg hm hv ?_ hn hdb)
  exact PyProof.Rows.callWith_builtin1 (thn (ha pos pins s σ H _ I h) fun us s1 ⟨vs, H1, I1, r1, q1⟩ => hc pins s1 σ H1 vs us Q I1 r1 q1) he hpl
/-- T(e, ..), T a built-in type -/
theorem pe_callTy (hc : CallR X (.type T) r) (hg : Gl X x) (hm : X.mg x = none) (hv : bootBuiltins x = some (.type T)) (ha : PA X (e :: es) t) (hn : x ≠ "__name__" := by decide) (hdb : (x == ("__debug__" : Str)) = false := by decide)
    (he : starEach (e :: es) X.env = (false, eval e X.env) :: starEach es X.env := by rfl) (hpl : (backTo pos (starEach es X.env)).any (·.1) = false := by rfl) : PE X (.Call (.Name x p) (e :: es) [] pos) (tCB r t) := by
  intro pins s σ H Q I h
  refine wpAny_Call_Name_kw (ld_blt I hg hm hv ?_ hn hdb)
  exact PyProof.Rows.callWith_type1 (thn (ha pos pins s σ H _ I h) fun us s1 ⟨vs, H1, I1, r1, q1⟩ => hc pins s1 σ H1 vs us Q I1 r1 q1) he hpl
/-- T() -/
theorem pe_callTy0 (hc : CallR X (.type T) r) (hg : Gl X x) (hm : X.mg x = none) (hv : bootBuiltins x = some (.type T)) (hn : x ≠ "__name__" := by decide) (hdb : (x == ("__debug__" : Str)) = false := by decide) :
    PE X (.Call (.Name x p) [] [] pos) (tCB r tNil) := by
  intro pins s σ H Q I h
  refine wpAny_Call_Name_kw (ld_blt I hg hm hv ?_ hn hdb)
  exact PyProof.Rows.callWith_type0 (hc pins s σ H [] [] Q I .nil h)
end
end L2

namespace HT
open PySem PyProof.Rows

/-- t < u of tuples of ints -/
def lexLt : List Int → List Int → Bool
  | [], [] => false
  | [], _ :: _ => true
  | _ :: _, [] => false
  | x :: xs, y :: ys => if x = y then lexLt xs ys else decide (x < y)
theorem lexLt_cons (x y : Int) (xs ys : List Int) : lexLt (x :: xs) (y :: ys) = if x = y then lexLt xs ys else decide (x < y) := rfl
theorem lexLt_nil_nil : lexLt [] [] = false := rfl
theorem lexLt_nil_cons (y : Int) (ys : List Int) : lexLt [] (y :: ys) = true := rfl
theorem lexLt_cons_nil (x : Int) (xs : List Int) : lexLt (x :: xs) [] = false := rfl

theorem eqAt_int (A : Around) (s : Shared) (a : Int) (t : Tok) (c : Int) (u : Tok) : ∃ e, SeqAt.EqAt A s (.int a t) (.int c u) e ∧ (e = true ↔ a = c) :=
  ⟨(a == c), SeqAt.EqAt.int_int a t c u, by simp⟩
theorem rcLt_int (A : Around) (s : Shared) (a : Int) (t : Tok) (c : Int) (u : Tok) (prog : Program) (w : World) (E : Value → Shared → Prop) (Q : Value → Shared → Prop) (h : Q (.bool (decide (a < c))) s) :
    wpAny (model prog w) A (richCompare .Lt (.int a t) (.int c u)) Q E s :=
  (PyProof.Rows.lt_int h : wpAny (model prog w) A (compareOp .Lt (.int a t) (.int c u)) Q E s)

section
open PySem.SeqAt
open PySem.AutoSeq1 (wpAny_loadPart')
open PySem.MeetsSeq PySem.MeetsSeq2 PySem.MeetsSeq3

theorem tuple_lt_ints (l b : Addr) (items items2 : Array Value) (n n2 : Nat) (dd dd2 : Option Addr) (sl sl2 : Array (Option Value)) (ns ms : List Int) (hi : IntsAre items.toList ns) (hj : IntsAre items2.toList ms) :
    Meets (Builtin.«tuple.__lt__» ⟨[.ref l, .ref b], []⟩)
      (fun _ R s => s.heap.get? l = some { cls := .type "tuple", dict := dd, data := .seq items n, slots := sl } ∧ s.heap.get? b = some { cls := .type "tuple", dict := dd2, data := .seq items2 n2, slots := sl2 } ∧
        R (.ok (.ret (.bool (lexLt ns ms)))) s) :=
  .of_wp fun prog w A R s h => by
    obtain ⟨hp, g, d, tk, os⟩ := s; obtain ⟨hl, hb, h⟩ := h
    have f2 := AutoSeq1.sub_tuple_tuple
    have z1 : items.size = ns.length := by rw [← hi.length]; simp
    have z2 : items2.size = ms.length := by rw [← hj.length]; simp
    wp_walk using wpAny_loadPart' hl, wpAny_loadPart' hb, wpAny_forIn_list _ (fun rest b s' => b.1 = none ∧ s' = ⟨hp, g, d, tk, os⟩ ∧ ∃ (vs ws : List Value) (ns' ms' : List Int), rest = vs.zip ws ∧
      IntsAre vs ns' ∧ IntsAre ws ms' ∧ ns'.length + items2.size = ms'.length + items.size ∧ R (.ok (.ret (.bool (lexLt ns' ms')))) ⟨hp, g, d, tk, os⟩) _
    case turn =>
      rintro ⟨y, x⟩ rest b s' ⟨hb', rfl, vs, ws, ns', ms', hz, hvi, hwi, hlen, hR⟩
      cases hvi with
      | nil => rw [List.zip_nil_left] at hz; cases hz
      | cons a t hvi' =>
        cases hwi with
        | nil => rw [List.zip_nil_right] at hz; cases hz
        | cons c u hwi' =>
          rw [List.zip_cons_cons] at hz
          injection hz with hyx hrest
          injection hyx with hy hx
          subst hy hx
          rw [lexLt_cons] at hR
          simp only [List.length_cons] at hlen
          obtain ⟨e, he, hiff⟩ := eqAt_int A.in1 ⟨hp, g, d, tk, os⟩ a t c u
          refine wpAny_bind (he prog w _ _ ?_)
          cases e with
          | true =>
            rw [if_pos (hiff.mp rfl)] at hR
            wp_walk
            exact ⟨rfl, rfl, _, _, _, _, hrest, hvi', hwi', by omega, hR⟩
          | false =>
            rw [if_neg (fun q => absurd (hiff.mpr q) Bool.false_ne_true)] at hR
            have hri := rcLt_int A.in1 ⟨hp, g, d, tk, os⟩ a t c u prog w
            wp_walk using hri
            exact ⟨_, rfl, by simpa using hR⟩
    case fin =>
      rintro ⟨b1, b2⟩ s' ⟨hb', rfl, vs, ws, ns', ms', hz, hvi, hwi, hlen, hR⟩
      simp only at hb'
      subst hb'
      have hv : lexLt ns' ms' = decide (items.size < items2.size) := by
        cases hvi with
        | nil =>
          cases hwi with
          | nil =>
            simp only [List.length_nil] at hlen
            rw [lexLt_nil_nil]
            exact (decide_eq_false (by omega)).symm
          | cons c u hw =>
            simp only [List.length_nil, List.length_cons] at hlen
            rw [lexLt_nil_cons]
            exact (decide_eq_true (by omega)).symm
        | cons a t hv =>
          cases hwi with
          | nil =>
            simp only [List.length_nil, List.length_cons] at hlen
            rw [lexLt_cons_nil]
            exact (decide_eq_false (by omega)).symm
          | cons c u hw =>
            rw [List.zip_cons_cons] at hz
            cases hz
      rw [hv] at hR
      wp_walk
      exact ⟨_, rfl, by simpa [Builtin.Tuple.tupleCompareSizes] using hR⟩
    case h =>
      exact ⟨rfl, rfl, items.toList, items2.toList, ns, ms, rfl, hi, hj, by omega, h⟩
end

section
variable {prog : Program} {w : World} {A : Around} {E : Value → Shared → Prop} {s : Shared}

theorem lt_tupInts {l b : Addr} {items items2 : Array Value} {ns ms : List Int} {Q : Value → Shared → Prop} (hl : IsTup s.heap l items) (hb : IsTup s.heap b items2) (hi : IntsAre items.toList ns) (hj : IntsAre items2.toList ms)
    (hu : A.units < cLine) (h : Q (.bool (lexLt ns ms)) s) : wpAny (model prog w) A (compareOp .Lt (.ref l) (.ref b)) Q E s := by
  obtain ⟨⟨cls, dd, data, sl⟩, ho, hc, n, hd⟩ := id hl
  obtain ⟨⟨cls2, dd2, data2, sl2⟩, ho2, hc2, n2, hd2⟩ := id hb
  simp only at hc hd hc2 hd2
  subst hc hd hc2 hd2
  exact richCompare_meets_room (op := .Lt) ⟨_, ho, rfl⟩ ⟨_, ho2, rfl⟩ PySem.F.slot_tuple_lt PySem.F.entry_tuple_lt (PySem.F.args_tuple_lt_2 _ _) (tuple_lt_ints l b items items2 n n2 dd dd2 sl sl2 ns ms hi hj)
    ⟨ho, ho2, show Value.bool (lexLt ns ms) ≠ Value.notImplemented ∧ Q (.bool (lexLt ns ms)) s from ⟨(fun x => nomatch x), h⟩⟩ hu

/-- t + u, t not empty -/
theorem cat_tup {t b : Addr} {vs ws : List Value} {Q : Value → Shared → Prop} (ht : IsTup s.heap t vs.toArray) (hb : IsTup s.heap b ws.toArray) (hv : vs ≠ [])
    (h1 : ws = [] → Q (.ref t) s) (h2 : ws ≠ [] → Q (.ref s.heap.objs.size) { s with heap := s.heap.push { cls := .type "tuple", data := .seq (vs ++ ws).toArray } })
    (hsz : vs.length + ws.length ≤ sizeLine) : wpAny (model prog w) A (binaryOp .Add (.ref t) (.ref b)) Q E s := by
  obtain ⟨⟨cls, dd, data, sl⟩, ho, hc, n, hd⟩ := id ht
  obtain ⟨⟨cls2, dd2, data2, sl2⟩, ho2, hc2, n2, hd2⟩ := id hb
  simp only at hc hd hc2 hd2
  subst hc hd hc2 hd2
  have e : vs.toArray ++ ws.toArray = (vs ++ ws).toArray := by simp
  by_cases hw : ws = []
  · exact concat_meets ⟨_, ho, rfl⟩ ⟨_, ho2, rfl⟩ noFill_tuple_add seq_tuple_add PySem.F.slot_tuple_add PySem.F.entry_tuple_add (PySem.F.args_tuple_add_2 _ _)
      (tuple_addW1 t b vs.toArray ws.toArray n n2 dd dd2 sl sl2 (by simpa using hv) (by simp [hw])) ⟨ho, ho2, h1 hw⟩
  · refine concat_meets ⟨_, ho, rfl⟩ ⟨_, ho2, rfl⟩ noFill_tuple_add seq_tuple_add PySem.F.slot_tuple_add PySem.F.entry_tuple_add (PySem.F.args_tuple_add_2 _ _)
      (tuple_addW2 t b vs.toArray ws.toArray n n2 dd dd2 sl sl2 (by simpa using hv) (by simpa using hw) (by rw [List.size_toArray, List.size_toArray]; exact hsz)) ⟨ho, ho2, ?_⟩
    rw [e]
    exact h2 hw

/-! ### t[a:b], not the whole -/
/-- a slice's bound as a place among n (d where it is left out) -/
def sIx (n d : Nat) : Option Int → Nat
  | none => d
  | some v => if v < 0 then (v + (n : Int)).toNat else min v.toNat n
theorem sIx_none (n d : Nat) : sIx n d none = d := rfl
theorem sIx_nat (n d k : Nat) : sIx n d (some (k : Int)) = min k n := by
  show (if (k : Int) < 0 then ((k : Int) + (n : Int)).toNat else min (k : Int).toNat n) = min k n
  rw [if_neg (by omega), Int.toNat_natCast]
theorem sIx_le (n d : Nat) (hd : d ≤ n) (o : Option Int) : sIx n d o ≤ n := by
  cases o with
  | none => exact hd
  | some v =>
    show (if v < 0 then (v + (n : Int)).toNat else min v.toNat n) ≤ n
    by_cases hv : v < 0
    · rw [if_pos hv]; omega
    · rw [if_neg hv]; exact Nat.min_le_right _ _
theorem clip_eq (v : Int) (n d : Nat) : (if v < 0 then max (v + (n : Int)) 0 else min v (n : Int)) = ((sIx n d (some v) : Nat) : Int) := by
  show (if v < 0 then max (v + (n : Int)) 0 else min v (n : Int)) = (((if v < 0 then (v + (n : Int)).toNat else min v.toNat n) : Nat) : Int)
  by_cases hv : v < 0
  · simp only [if_pos hv]; omega
  · simp only [if_neg hv]; omega
theorem adjust_gen (lo hi : Option Int) (n : Nat) : Builtin.Slice.sliceAdjust lo hi 1 (n : Int) = (((sIx n 0 lo : Nat) : Int), ((sIx n n hi : Nat) : Int)) := by
  have h1 : ¬ ((1 : Int) < 0) := by omega
  unfold Builtin.Slice.sliceAdjust
  simp only [h1, if_false]
  refine Prod.ext ?_ ?_
  · cases lo with
    | none => rfl
    | some v => exact clip_eq v n 0
  · cases hi with
    | none => rfl
    | some v => exact clip_eq v n n
theorem places_gen (i j : Nat) : Builtin.Slice.slicePlaces (i : Int) (j : Int) 1 = j - i := by
  unfold Builtin.Slice.slicePlaces
  have h1 : (1 : Int) > 0 := by omega
  simp only [h1, if_true, Int.ediv_one]
  split <;> omega
theorem slicePart_ {v : Value} {o : Option Int} {Q : Option Int → Shared → Prop} (p : IsPart v o) (h : Q o s) : wpAny (model prog w) A (Builtin.Slice.slicePartIndex v) Q E s := by
  cases p with
  | none => exact slicePart_none h
  | int i t => exact slicePart_int h
theorem sliceApplied_gen {sl : Addr} {vl vu : Value} {lo hi : Option Int} {n : Nat} {Q : Int × Int × Nat → Shared → Prop} (hs : s.heap.IsSliceOf sl vl vu .none) (pl : IsPart vl lo) (pu : IsPart vu hi)
    (h : Q (((sIx n 0 lo : Nat) : Int), 1, sIx n n hi - sIx n 0 lo) s) : wpAny (model prog w) A (Builtin.Slice.sliceApplied (.ref sl) (pure (n : Int))) Q E s := by
  obtain ⟨os, hos, hcs, hds⟩ := id hs
  unfold Builtin.Slice.sliceApplied Builtin.Slice.sliceFields
  refine wpAny_bind (wpAny_bind (wpAny_field hos hds (x := vl) rfl (wpAny_bind (wpAny_field hos hds (x := vu) rfl (wpAny_bind (wpAny_field hos hds (x := .none) rfl (wpAny_pure ?_)))))))
  refine wpAny_bind (slicePart_none ?_)
  show wpAny _ _ (if ((1 : Int) == 0) = true then _ else _) _ _ s
  rw [if_neg (by decide)]
  refine wpAny_bind (slicePart_ pl (wpAny_bind (slicePart_ pu (wpAny_bind (wpAny_pure ?_)))))
  show wpAny _ _ (match Builtin.Slice.sliceAdjust lo hi 1 (n : Int) with | (lo, hi) => pure (lo, (1 : Int), Builtin.Slice.slicePlaces lo hi 1)) _ _ s
  rw [adjust_gen lo hi n]
  show wpAny _ _ (pure (((sIx n 0 lo : Nat) : Int), (1 : Int), Builtin.Slice.slicePlaces ((sIx n 0 lo : Nat) : Int) ((sIx n n hi : Nat) : Int) 1)) _ _ s
  rw [places_gen]
  exact wpAny_pure h
theorem pick_gen (xs : Array Value) (i k : Nat) : ((List.range k).filterMap fun (m : Nat) => xs[((i : Int) + (m : Int) * 1).toNat]?).toArray = ((xs.toList.drop i).take k).toArray := by
  have e : (fun (m : Nat) => xs[((i : Int) + (m : Int) * 1).toNat]?) = fun m => xs[i + m]? := by
    funext m
    have : ((i : Int) + (m : Int) * 1).toNat = i + m := by omega
    rw [this]
  rw [e]
  have := pick_run xs i k
  rw [List.filterMap_map] at this
  have e2 : ((fun x => xs[x]?) ∘ fun x => i + x) = fun m => xs[i + m]? := rfl
  rw [e2] at this
  rw [this]

theorem getItem_tuple_cut {t sl : Addr} {items : Array Value} {vl vu : Value} {lo hi : Option Int} {Q : Value → Shared → Prop} (ht : IsTup s.heap t items) (hs : s.heap.IsSliceOf sl vl vu .none) (pl : IsPart vl lo) (pu : IsPart vu hi)
    (hw : ¬ (sIx items.size 0 lo = 0 ∧ sIx items.size items.size hi = items.size))
    (h : Q (.ref s.heap.objs.size) { s with heap := s.heap.push { cls := .type "tuple", data := .seq ((items.toList.drop (sIx items.size 0 lo)).take (sIx items.size items.size hi - sIx items.size 0 lo)).toArray } })
    (hsz : items.size ≤ sizeLine) : wpAny (model prog w) A (getItem (.ref t) (.ref sl)) Q E s := by
  have htake : sizeOk (.seq ((items.toList.drop (sIx items.size 0 lo)).take (sIx items.size items.size hi - sIx items.size 0 lo)).toArray) := by
    show ((items.toList.drop (sIx items.size 0 lo)).take (sIx items.size items.size hi - sIx items.size 0 lo)).toArray.size ≤ sizeLine
    rw [List.size_toArray, List.length_take, List.length_drop, Array.length_toList]
    omega
  have hj : sIx items.size items.size hi ≤ items.size := sIx_le _ _ (Nat.le_refl _) hi
  obtain ⟨os, hos, hcs, hds⟩ := id hs
  have hTs : s.TypeIs (.ref sl) "slice" := ⟨os, hos, hcs⟩
  unfold getItem
  try with_reducible refine wpAny_holding ?_
  first | refine wpAny_bind (wpAny_pure ?_) | skip
  refine wpAny_bind (wpAny_sequenceKey ht.typeIs (by decide) ?_)
  refine wpAny_bind (wpAny_callSpecial?_slot (name := Str.ofString "__getitem__") ht.typeIs PyProof.Rows.slot_tuple_getitem
    (wpAny_call_entry PyProof.Rows.slot_tuple_getitem ht.typeIs entry_tuple_getitem ?_ (args_tuple_getitem _ _)))
  show wpAny _ _ (Builtin.Tuple.tupleItemsOf (.ref t) >>= _) _ _ s
  refine wpAny_bind (tupleItemsOf_ ht ?_)
  refine wpAny_bind (wpAny_typeOf hTs ?_)
  rw [if_pos (by decide)]
  refine wpAny_bind (sliceApplied_gen hs pl pu ?_)
  have hno : ¬ ((((sIx items.size 0 lo : Nat) : Int) == 0 && (1 : Int) == 1 && (sIx items.size items.size hi - sIx items.size 0 lo) == items.size) = true) := by
    intro q
    rw [Bool.and_eq_true, Bool.and_eq_true] at q
    have q1 : ((sIx items.size 0 lo : Nat) : Int) = 0 := eq_of_beq q.1.1
    have q2 : sIx items.size items.size hi - sIx items.size 0 lo = items.size := eq_of_beq q.2
    exact hw ⟨by omega, by omega⟩
  show wpAny _ _ (if (((sIx items.size 0 lo : Nat) : Int) == 0 && (1 : Int) == 1 && (sIx items.size items.size hi - sIx items.size 0 lo) == items.size) = true then _ else _) _ _ s
  rw [if_neg hno, pick_gen]
  first
    | exact wpAny_bind (m := Builtin.Tuple.tupleExact _) (wpAny_newObj_type (wpAny_pure ⟨_, rfl, wpAny_pure h⟩) htake)
    | exact wpAny_bind (m := Builtin.Tuple.tupleExact _) (wpAny_newObj_type (wpAny_bind (wpAny_pure (wpAny_pure ⟨_, rfl, wpAny_pure h⟩))) htake)
    | exact wpAny_bind (wpAny_bind (m := Builtin.Tuple.tupleExact _) (wpAny_newObj_type (wpAny_pure (wpAny_pure ⟨_, rfl, wpAny_pure h⟩)) htake))
    | exact wpAny_bind (wpAny_bind (m := Builtin.Tuple.tupleExact _) (wpAny_newObj_type (wpAny_pure ⟨_, rfl, wpAny_pure h⟩) htake))
end
end HT

namespace L2
open PySem PySem.Spec PyProof.Rows

/-! ### the parts of a slice -/
abbrev TO := St → Hp → (Option Int → Hp → Prop) → Prop
/-- a slice's part (left out, or an int) -/
def PO (X : Cx) (e : Option Expr) (t : TO) : Prop :=
  ∀ (pins : List (Addr × Obj)) (s : Shared) (σ : St) (H : Hp) (Q : Option Int → Hp → Prop), Inv X pins σ H s → t σ H Q →
    wpAny (model X.prog X.w) X.A (evalPart e X.env) (fun u s' => ∃ o H', Inv X pins σ H' s' ∧ IsPart u o ∧ Q o H') X.xe s
def tNoPart : TO := fun _ H Q => Q none H
def tPart (t : TE) : TO := fun σ H Q => t σ H fun x H1 => ∃ i, x = .int i ∧ Q (some i) H1

theorem intsAre_of {ns : List Int} : ∀ {us : List Value}, Vals (ns.map V.int) us → IntsAre us ns := by
  induction ns with
  | nil => intro us r; rw [List.map_nil] at r; cases r; exact .nil
  | cons n ns ih =>
    intro us r
    rw [List.map_cons] at r
    cases r with
    | cons r1 r2 =>
      obtain ⟨t, e⟩ := r1
      subst e
      exact .cons n t (ih r2)

section
variable {X : Cx} {e : Expr} {te : TE} {lo hi : Option Expr} {tl th : TO} {pos p2 : Pos}

theorem po_none : PO X none tNoPart := by
  intro pins s σ H Q I h
  rw [evalPart_none]
  exact wpAny_pure ⟨none, H, I, .none, h⟩
theorem po_some (h : PE X e te) : PO X (some e) (tPart te) := by
  intro pins s σ H Q I hw
  rw [evalPart_some]
  refine thn (h pins s σ H _ I hw) fun u s1 ⟨x, H1, I1, r1, q1⟩ => ?_
  obtain ⟨i, rfl, q⟩ := q1
  obtain ⟨t, rfl⟩ := r1
  exact ⟨some i, H1, I1, .int i t, q⟩

/-- what a slice of a value is, by values: the slice object stands at sl -/
def SlR (X : Cx) (r : V → Option Int → Option Int → Hp → VK → Prop) : Prop :=
  ∀ (pins : List (Addr × Obj)) (s : Shared) (σ : St) (H : Hp) (x : V) (v vl vu : Value) (lo hi : Option Int) (sl : Addr) (Q : VK), Inv X pins σ H s → RelV x v → s.heap.IsSliceOf sl vl vu .none → IsPart vl lo → IsPart vu hi → r x lo hi H Q →
    ∃ T id, typeLookup (.type T) "__getitem__" = pure (some (.builtin id)) ∧ s.TypeIs v T ∧ wpAny (model X.prog X.w) X.A (getItem v (.ref sl)) (EP X pins σ Q) X.xe s
theorem SlR.or {r r' : V → Option Int → Option Int → Hp → VK → Prop} (h : SlR X r) (h' : SlR X r') : SlR X (fun x lo hi H Q => r x lo hi H Q ∨ r' x lo hi H Q) := by
  intro pins s σ H x v vl vu lo hi sl Q I rx hs pl pu q
  rcases q with q | q
  · exact h pins s σ H x v vl vu lo hi sl Q I rx hs pl pu q
  · exact h' pins s σ H x v vl vu lo hi sl Q I rx hs pl pu q
def tSl (r : V → Option Int → Option Int → Hp → VK → Prop) (te : TE) (tl th : TO) : TE := fun σ H Q => te σ H fun x H1 => tl σ H1 fun l H2 => th σ H2 fun u H3 => r x l u H3 Q
/-- a[lo:hi], any a -/
theorem pe_slice {r : V → Option Int → Option Int → Hp → VK → Prop} (hr : SlR X r) (he : PE X e te) (hl : PO X lo tl) (hu : PO X hi th) : PE X (.Subscript e (.Slice lo hi none p2) pos) (tSl r te tl th) := by
  intro pins s σ H Q I h
  refine Subscript_ (thn (he pins s σ H _ I h) fun v s1 ⟨x, H1, I1, r1, q1⟩ => ?_)
  refine wpAny_Slice (thn (hl pins s1 σ H1 _ I1 q1) fun vl s2 ⟨l, H2, I2, pl, q2⟩ => thn (hu pins s2 σ H2 _ I2 q2) fun vu s3 ⟨u, H3, I3, pu, q3⟩ => ?_)
  rw [evalPart_none]
  refine wpAny_pure ?_
  have I4 : Inv X pins σ H3 { s3 with heap := s3.heap.push { cls := .type "slice", data := .fields #[vl, vu, .none] } } := I3.kept (t' := s3.toks) fun b ob q => Heap.get?_push_of_some _ q
  obtain ⟨T, id, hT, ht, hg⟩ := hr pins { s3 with heap := s3.heap.push { cls := .type "slice", data := .fields #[vl, vu, .none] } } σ H3 x v vl vu l u s3.heap.objs.size Q I4 r1 (Heap.IsSliceOf.new ..) pl pu q3
  show wpAny (model X.prog X.w) X.A (subscriptTail e (.Slice lo hi none p2) v (.ref s3.heap.objs.size)) (EP X pins σ Q) X.xe { s3 with heap := s3.heap.push { cls := .type "slice", data := .fields #[vl, vu, .none] } }
  exact tail_any (ops := [.ref s3.heap.objs.size, v]) ht hT hg (by with_unfolding_all rfl)

/-- the items of xs[lo:hi] -/
def cutV (xs : List V) (lo hi : Option Int) : List V := (xs.drop (HT.sIx xs.length 0 lo)).take (HT.sIx xs.length xs.length hi - HT.sIx xs.length 0 lo)
theorem cutV_length (xs : List V) (lo hi : Option Int) : (cutV xs lo hi).length ≤ xs.length := by
  unfold cutV
  rw [List.length_take, List.length_drop]
  omega
/-- t[lo:hi], not the whole of it (the whole would be t itself) -/
def rSlT (K : PySem.W.Frag) : V → Option Int → Option Int → Hp → VK → Prop := fun x lo hi H Q => ∃ a xs, x = .ref a ∧ SqT K H a xs ∧
  ¬ (HT.sIx xs.length 0 lo = 0 ∧ HT.sIx xs.length xs.length hi = xs.length) ∧ ∀ p, H p = none → Q (.ref p) (upd H p (.tup (cutV xs lo hi)))
theorem sl_tup : SlR X (rSlT X.K) := by
  intro pins s σ H x v vl vu lo hi sl Q I rx hs pl pu h
  obtain ⟨a, xs, rfl, hx, hw, q⟩ := h
  cases rx
  obtain ⟨its, r, ht, hz⟩ := I.tuple hx
  have hlen : its.toArray.size = xs.length := by rw [List.size_toArray]; exact r.length.symm
  refine ⟨"tuple", _, PyProof.Rows.slot_tuple_getitem.lookup, ht.typeIs, ?_⟩
  refine HT.getItem_tuple_cut ht hs pl pu (by rw [hlen]; exact hw) ?_ (by rw [hlen]; exact hz)
  rw [hlen]
  refine ⟨.ref s.heap.objs.size, _, I.laid (t' := s.toks) (o := .tup (cutV xs lo hi)) (fun b ob q => Heap.get?_push_of_some _ q) (Nat.le_refl _) ?_, rfl, q _ (I.hok.fresh (Nat.le_refl _))⟩
  exact ⟨Nat.le_trans (cutV_length xs lo hi) hz, _, (r.drop (HT.sIx xs.length 0 lo)).take (HT.sIx xs.length xs.length hi - HT.sIx xs.length 0 lo), IsTup.new _ _⟩

/-! ### t < u, t + u -/
def rLtT (K : PySem.W.Frag) : R2 := fun x y H Q => ∃ a b ns ms, x = .ref a ∧ y = .ref b ∧ SqT K H a (ns.map V.int) ∧ SqT K H b (ms.map V.int) ∧ Q (.bl (HT.lexLt ns ms)) H
theorem op_ltT (hu : X.A.units < cLine) : OpR X (compareOp .Lt) (rLtT X.K) := by
  intro pins s σ H x y v u Q I rx ry h
  obtain ⟨a, b, ns, ms, rfl, rfl, ha, hb, q⟩ := h
  cases rx
  cases ry
  obtain ⟨its, r1, p1, _⟩ := I.tuple ha
  obtain ⟨its2, r2, p2, _⟩ := I.tuple hb
  have i1 : IntsAre its.toArray.toList ns := intsAre_of r1
  have i2 : IntsAre its2.toArray.toList ms := intsAre_of r2
  exact HT.lt_tupInts p1 p2 i1 i2 hu ⟨.bl (HT.lexLt ns ms), H, I, rfl, q⟩
/-- t + u, t not empty: u empty gives t itself -/
def rCatT (K : PySem.W.Frag) : R2 := fun x y H Q => ∃ a b xs ys, x = .ref a ∧ y = .ref b ∧ SqT K H a xs ∧ SqT K H b ys ∧ xs ≠ [] ∧ xs.length + ys.length ≤ sizeLine ∧
  (ys = [] → Q (.ref a) H) ∧ (ys ≠ [] → ∀ p, H p = none → Q (.ref p) (upd H p (.tup (xs ++ ys))))
theorem Vals.nil_iff {xs : List V} {us : List Value} (r : Vals xs us) : us = [] ↔ xs = [] := by
  cases r with
  | nil => simp
  | cons _ _ => simp
theorem op_catT : OpR X (binaryOp .Add) (rCatT X.K) := by
  intro pins s σ H x y v u Q I rx ry h
  obtain ⟨a, b, xs, ys, rfl, rfl, ha, hb, hx, hz, q1, q2⟩ := h
  cases rx
  cases ry
  obtain ⟨its, r1, p1, _⟩ := I.tuple ha
  obtain ⟨its2, r2, p2, _⟩ := I.tuple hb
  refine HT.cat_tup p1 p2 (fun z => hx (r1.nil_iff.mp z)) (fun z => ⟨.ref a, H, I, rfl, q1 (r2.nil_iff.mp z)⟩) (fun z => ?_) (by rw [← r1.length, ← r2.length]; exact hz)
  refine ⟨.ref s.heap.objs.size, _, I.laid (t' := s.toks) (o := .tup (xs ++ ys)) (fun b ob q => Heap.get?_push_of_some _ q) (Nat.le_refl _) ?_, rfl, q2 (fun w => z (r2.nil_iff.mpr w)) _ (I.hok.fresh (Nat.le_refl _))⟩
  exact ⟨by rw [List.length_append]; exact hz, _, r1.append r2, IsTup.new _ _⟩
/-- tuple(t) -/
theorem call_tupleT : CallR X (.type "tuple") (fun xs H Q => ∃ a ys, xs = [.ref a] ∧ SqT X.K H a ys ∧ Q (.ref a) H) := by
  intro pins s σ H xs us Q I r h
  obtain ⟨a, ys, rfl, ha, q⟩ := h
  obtain ⟨u, rfl, ru⟩ := vals1 r
  cases ru
  obtain ⟨its, _, p1, _⟩ := I.tuple ha
  exact call_tuple_same (items := its.toArray) p1 ⟨.ref a, H, I, rfl, q⟩
end
end L2

namespace L2
open PySem PySem.Spec PyProof.Rows

/-! ### places -/
/-- the place that an index of any sign means -/
def ixN (n : Nat) (i : Int) : Option Nat := if 0 ≤ i then (if i < n then some i.toNat else none) else if -(n : Int) ≤ i then some (i + n).toNat else none
def atI {α : Type} (xs : List α) (i : Int) : Option α := (ixN xs.length i).bind fun j => xs[j]?
theorem ixN_seq {n : Nat} {i : Int} {j : Nat} (h : ixN n i = some j) : seqIndex? i n = some j ∧ j < n ∧ -(n : Int) ≤ i ∧ i < n := by
  unfold ixN at h
  by_cases h0 : 0 ≤ i
  · rw [if_pos h0] at h
    by_cases h1 : i < n
    · rw [if_pos h1] at h
      have e : i.toNat = j := Option.some.inj h
      exact ⟨by rw [seqIndex_of h0 h1, e], by omega, by omega, h1⟩
    · rw [if_neg h1] at h; cases h
  · rw [if_neg h0] at h
    by_cases h1 : -(n : Int) ≤ i
    · rw [if_pos h1] at h
      have e : (i + n).toNat = j := Option.some.inj h
      exact ⟨by rw [seqIndex_neg (by omega) h1, e], by omega, h1, by omega⟩
    · rw [if_neg h1] at h; cases h
theorem atI_get {α : Type} {xs : List α} {i : Int} {v : α} (h : atI xs i = some v) : ∃ j, seqIndex? i xs.length = some j ∧ xs[j]? = some v ∧ j < xs.length ∧ -(xs.length : Int) ≤ i ∧ i < xs.length := by
  unfold atI at h
  cases e : ixN xs.length i with
  | none => rw [e] at h; cases h
  | some j =>
    rw [e] at h
    obtain ⟨h1, h2, h3, h4⟩ := ixN_seq e
    exact ⟨j, h1, h, h2, h3, h4⟩
theorem atI_nat {α : Type} {xs : List α} {j : Nat} {v : α} (h : xs[j]? = some v) : atI xs (j : Int) = some v := by
  have hj : j < xs.length := (List.getElem?_eq_some_iff.mp h).1
  have e : ixN xs.length (j : Int) = some j := by
    unfold ixN
    rw [if_pos (by omega), if_pos (by omega)]; simp
  unfold atI; rw [e]; exact h
theorem atI_last {α : Type} (xs : List α) (v : α) : atI (xs ++ [v]) (-1) = some v := by
  have hl : (xs ++ [v]).length = xs.length + 1 := by simp
  have e : ixN (xs ++ [v]).length (-1) = some xs.length := by
    unfold ixN
    rw [hl, if_neg (by decide), if_pos (by omega)]
    congr 1
    omega
  unfold atI
  rw [e]
  show (xs ++ [v])[xs.length]? = some v
  simp

/-! ### what may be subscripted -/
/-- what stands as an index of a plain subscript -/
def PlainIx (b : Expr) : Prop := ∀ o i, subscripted b false o i = operate [o, i] (getItem o i)
/-- a subscript by values -/
def IxR (X : Cx) (r : R2) : Prop :=
  ∀ (value slice : Expr) (pins : List (Addr × Obj)) (s : Shared) (σ : St) (H : Hp) (x y : V) (v u : Value) (Q : VK), Inv X pins σ H s → RelV x v → RelV y u → r x y H Q →
    subscripted slice false v u = operate [v, u] (getItem v u) → wpAny (model X.prog X.w) X.A (subscriptTail value slice v u) (EP X pins σ Q) X.xe s
/-- a call of a builtin's method by values: the receiver, the arguments -/
def MtR (X : Cx) (id : String) (r : V → List V → Hp → VK → Prop) : Prop :=
  ∀ (pins : List (Addr × Obj)) (s : Shared) (σ : St) (H : Hp) (x : V) (xs : List V) (v : Value) (us : List Value) (Q : VK), Inv X pins σ H s → RelV x v → Vals xs us → r x xs H Q →
    wpAny (model X.prog X.w) X.A (call (.builtin id) (v :: us)) (EP X pins σ Q) X.xe s
section
variable {X : Cx} {a b : Expr} {ta tb : TE} {pos : Pos}
theorem IxR.or {r r' : R2} (h : IxR X r) (h' : IxR X r') : IxR X (fun x y H Q => r x y H Q ∨ r' x y H Q) := by
  intro value slice pins s σ H x y v u Q I rx ry q hs
  rcases q with q | q
  · exact h value slice pins s σ H x y v u Q I rx ry q hs
  · exact h' value slice pins s σ H x y v u Q I rx ry q hs
theorem MtR.or {id : String} {r r' : V → List V → Hp → VK → Prop} (h : MtR X id r) (h' : MtR X id r') : MtR X id (fun x xs H Q => r x xs H Q ∨ r' x xs H Q) := by
  intro pins s σ H x xs v us Q I rx rs q
  rcases q with q | q
  · exact h pins s σ H x xs v us Q I rx rs q
  · exact h' pins s σ H x xs v us Q I rx rs q
/-- a[b] -/
theorem pe_ix {r : R2} (hr : IxR X r) (ha : PE X a ta) (hb : PE X b tb) (hs : PlainIx b) : PE X (.Subscript a b pos) (tOp r ta tb) := by
  intro pins s σ H Q I h
  exact Subscript_ (binT ha hb I h fun v u s2 x y H2 I2 rx ry q => hr a b pins s2 σ H2 x y v u Q I2 rx ry q (hs _ _))

def rIxL (K : PySem.W.Frag) : R2 := fun x y H Q => ∃ p xs i v, x = .ref p ∧ y = .int i ∧ SqL K H p xs ∧ atI xs i = some v ∧ Q v H
def rIxT (K : PySem.W.Frag) : R2 := fun x y H Q => ∃ p xs i v, x = .ref p ∧ y = .int i ∧ SqT K H p xs ∧ atI xs i = some v ∧ Q v H
def rIxS : R2 := fun x y H Q => ∃ z i c, x = .str z ∧ y = .int i ∧ z.length ≤ sizeLine ∧ atI z.cps.toList i = some c ∧ Q (.str ⟨#[c]⟩) H
theorem ix_list : IxR X (rIxL X.K) := by
  intro value slice pins s σ H x y v u Q I rx ry h hs
  obtain ⟨p, xs, i, z, rfl, rfl, hq, he, q⟩ := h
  cases rx
  obtain ⟨t, rfl⟩ := ry
  obtain ⟨its, r, pl, hz⟩ := I.list hq
  obtain ⟨j, h1, h2, h3, h4, h5⟩ := atI_get he
  obtain ⟨w, ew, rw'⟩ := r.get h2
  have hl := r.length
  have hn := line63
  have fin : EP X pins σ Q w s := ⟨z, H, I, rw', q⟩
  by_cases h0 : 0 ≤ i
  · have hj : i.toNat = j := by
      rw [seqIndex_of h0 h5] at h1
      exact Option.some.inj h1
    exact item_listR pl.isList h0 (by omega) (by rw [hj]; simpa using ew) fin hs
  · have hj : (i + (its.toArray.size : Int)).toNat = j := by
      rw [seqIndex_neg (by omega) h4] at h1
      rw [List.size_toArray, ← hl]
      exact Option.some.inj h1
    exact subscriptTail_builtinR (x := w) pl.isList.typeIs slot_list_getitem.lookup
      (wpAny_getItem_list_neg (Q := fun r s' => r = w ∧ EP X pins σ Q r s') pl.isList (by omega) (by rw [List.size_toArray] <;> omega) (by omega) (by rw [hj]; simpa using ew) ⟨rfl, fin⟩) hs
theorem ix_tup : IxR X (rIxT X.K) := by
  intro value slice pins s σ H x y v u Q I rx ry h hs
  obtain ⟨p, xs, i, z, rfl, rfl, hq, he, q⟩ := h
  cases rx
  obtain ⟨t, rfl⟩ := ry
  obtain ⟨its, r, pl, hz⟩ := I.tuple hq
  obtain ⟨j, h1, h2, h3, h4, h5⟩ := atI_get he
  obtain ⟨w, ew, rw'⟩ := r.get h2
  have hl := r.length
  have hn := line63
  have fin : EP X pins σ Q w s := ⟨z, H, I, rw', q⟩
  exact subscriptTail_builtinR (x := w) pl.typeIs slot_tuple_getitem.lookup
    (getItem_tuple (j := j) (Q := fun r s' => r = w ∧ EP X pins σ Q r s') pl (by omega) (by omega) (by rw [List.size_toArray, ← hl]; exact h1) (by simpa using ew) ⟨rfl, fin⟩) hs
theorem ix_str : IxR X rIxS := by
  intro value slice pins s σ H x y v u Q I rx ry h hs
  obtain ⟨z, i, c, rfl, rfl, hz, he, q⟩ := h
  obtain ⟨t, rfl⟩ := rx
  obtain ⟨t', rfl⟩ := ry
  obtain ⟨j, h1, h2, h3, h4, h5⟩ := atI_get he
  have hl : z.cps.toList.length = z.length := by simp [Str.length]
  rw [hl] at h1 h4 h5
  have hn := line63
  exact tail_any (typeIs_str s z t) slot_str_getitem.lookup (getItem_str (c := c) (by
    have e1 : decide (i < -(2 ^ 63 : Int)) = false := decide_eq_false (by omega)
    have e2 : decide (i ≥ 2 ^ 63) = false := decide_eq_false (by omega)
    rw [e1, e2, Bool.or_false]) (by rw [h1]; simpa using h2) ⟨.str ⟨#[c]⟩, H, I.tok _, ⟨_, rfl⟩, q⟩) hs
/-- list, tuple or str -/
def rIx (K : PySem.W.Frag) : R2 := fun x y H Q => rIxL K x y H Q ∨ rIxT K x y H Q ∨ rIxS x y H Q
theorem ix_seq : IxR X (rIx X.K) := ix_list.or (ix_tup.or ix_str)

/-! ### xs[i] = v, any sign -/
/-- the list's object behind a store -/
theorem mapSeq_set (its : List Value) (n j : Nat) (u : Value) : Obj.mapSeq (·.setIfInBounds j u) { cls := .type "list", data := .seq its.toArray n } = { cls := .type "list", data := .seq (its.set j u).toArray n } := by
  simp [Obj.mapSeq]
theorem Inv.lst {pins : List (Addr × Obj)} {σ : St} {H : Hp} {s : Shared} {p : Addr} {xs : List V} (I : Inv X pins σ H s) (h : H p = some (.lst xs)) :
    ∃ (its : List Value) (n : Nat), Vals xs its ∧ s.heap.get? p = some { cls := .type "list", data := .seq its.toArray n } ∧ xs.length ≤ sizeLine := by
  obtain ⟨z, its, n, r, e⟩ := I.hok p _ h
  exact ⟨its, n, r, e, z⟩
/-- the list at p is written by an update of its object -/
theorem Inv.lstUpd {pins : List (Addr × Obj)} {σ : St} {H : Hp} {s : Shared} {p : Addr} {xs ys : List V} {its its' : List Value} {n n' : Nat} {f : Obj → Obj} (I : Inv X pins σ H s) (h : H p = some (.lst xs))
    (ho : s.heap.get? p = some { cls := .type "list", data := .seq its.toArray n }) (hf : f { cls := .type "list", data := .seq its.toArray n } = { cls := .type "list", data := .seq its'.toArray n' }) (r : Vals ys its') (hz : ys.length ≤ sizeLine) (t : Nat) :
    Inv X pins σ (upd H p (.lst ys)) { s with heap := s.heap.update p f, toks := t } := by
  have e : (s.heap.update p f).get? p = some { cls := .type "list", data := .seq its'.toArray n' } := by
    rw [Heap.get?_update_self f ho (by rw [hf] <;> rfl), hf]
  refine I.write (x := p) (e := p) (by rw [h]; trivial) (.inl rfl) (fun b u hb q => (Heap.get?_update_other _ _ (Ne.symm hb)).trans q) ⟨_, e⟩ ?_
  exact ⟨hz, its', n', r, e⟩
def rSetL : V → V → V → Hp → (Hp → Prop) → Prop := fun o i v H Q => ∃ p xs k j, o = .ref p ∧ i = .int k ∧ H p = some (.lst xs) ∧ ixN xs.length k = some j ∧ Q (upd H p (.lst (xs.set j v)))
theorem set_list : PSet X rSetL := by
  intro pins s σ H o i v ov iv u Q I ro ri rv h
  obtain ⟨p, xs, k, j, rfl, rfl, hp, hj, q⟩ := h
  cases ro
  obtain ⟨t, rfl⟩ := ri
  obtain ⟨its, n, r, ho, hz⟩ := I.lst hp
  obtain ⟨h1, h2, h3, h4⟩ := ixN_seq hj
  have hl := r.length
  have hn := line63
  have I' : Inv X pins σ (upd H p (.lst (xs.set j v))) { s with heap := s.heap.update p (Obj.mapSeq (·.setIfInBounds j u)) } :=
    I.lstUpd hp ho (mapSeq_set its n j u) (r.set rv j) (by rw [List.length_set]; exact hz) s.toks
  by_cases h0 : 0 ≤ k
  · have hk : k.toNat = j := by
      rw [seqIndex_of h0 h4] at h1
      exact Option.some.inj h1
    exact PySem.W.ki_setAt ho h0 (by omega) (by rw [List.size_toArray, ← hl]; exact h4) (by rw [hk]; exact ⟨_, I', q⟩)
  · have hk : (k + (its.toArray.size : Int)).toNat = j := by
      rw [seqIndex_neg (by omega) h3] at h1
      rw [List.size_toArray, ← hl]
      exact Option.some.inj h1
    exact PySem.W.ki_setBack ho (by omega) (by rw [List.size_toArray, ← hl]; exact h3) (by omega) (by rw [hk]; exact ⟨_, I', q⟩)

/-! ### slices -/
theorem slice_bounds (lo hi : Option Int) (n : Nat) : (sliceBounds lo hi none n).1 = ((HT.sIx n 0 lo : Nat) : Int) ∧ (sliceBounds lo hi none n).2.1 = ((HT.sIx n n hi : Nat) : Int) ∧ (sliceBounds lo hi none n).2.2 = 1 := by
  refine ⟨?_, ?_, rfl⟩
  · cases lo with
    | none => simp [sliceBounds, HT.sIx]
    | some i =>
      simp only [sliceBounds, HT.sIx, Option.getD_none, show (1 : Int) > 0 by decide, if_true]
      by_cases h : i < 0
      · simp only [h, if_true] <;> omega
      · simp only [h, if_false] <;> omega
  · cases hi with
    | none => simp [sliceBounds, HT.sIx]
    | some i =>
      simp only [sliceBounds, HT.sIx, Option.getD_none, show (1 : Int) > 0 by decide, if_true]
      by_cases h : i < 0
      · simp only [h, if_true] <;> omega
      · simp only [h, if_false] <;> omega
theorem slicePick_cut (its : List Value) (lo hi : Option Int) : slicePick its.toArray lo hi none = ((its.drop (HT.sIx its.length 0 lo)).take (HT.sIx its.length its.length hi - HT.sIx its.length 0 lo)).toArray := by
  obtain ⟨h1, h2, h3⟩ := slice_bounds lo hi its.toArray.size
  unfold slicePick
  rw [h1, h2, h3]
  simp only [sliceRange_one, pick_run, List.size_toArray] <;> rfl
/-- xs[lo:hi] of a list: a new list -/
def rSlL (K : PySem.W.Frag) : V → Option Int → Option Int → Hp → VK → Prop := fun x lo hi H Q => ∃ a xs, x = .ref a ∧ SqL K H a xs ∧ ∀ p, H p = none → Q (.ref p) (upd H p (.lst (cutV xs lo hi)))
theorem sl_list : SlR X (rSlL X.K) := by
  intro pins s σ H x v vl vu lo hi sl Q I rx hs pl pu h
  obtain ⟨a, xs, rfl, hx, q⟩ := h
  cases rx
  obtain ⟨its, r, ht, hz⟩ := I.list hx
  have hlen := r.length
  refine ⟨"list", _, slot_list_getitem.lookup, ht.isList.typeIs, ?_⟩
  refine wpAny_getItem_list_slice ht.isList hs pl pu .none (by simp) ?_ (by rw [List.size_toArray] <;> omega)
  rw [slicePick_cut, ← hlen]
  refine ⟨.ref s.heap.objs.size, _, I.laid (t' := s.toks) (o := .lst (cutV xs lo hi)) (fun b ob q => Heap.get?_push_of_some _ q) (Nat.le_refl _) ?_, rfl, q _ (I.hok.fresh (Nat.le_refl _))⟩
  exact ⟨Nat.le_trans (cutV_length xs lo hi) hz, _, 0, (r.drop (HT.sIx xs.length 0 lo)).take (HT.sIx xs.length xs.length hi - HT.sIx xs.length 0 lo), Heap.get?_push_size _ rfl⟩

/-! ### in, not in: flat items -/
def flatV : V → Bool
  | .non => true
  | .bl _ => true
  | .int _ => true
  | .str _ => true
  | _ => false
/-- == of flat values -/
def eqV : V → V → Bool
  | .non, .non => true
  | .bl a, .bl b => a == b
  | .bl a, .int b => (if a then 1 else 0) == b
  | .int a, .bl b => a == (if b then 1 else 0)
  | .int a, .int b => a == b
  | .str a, .str b => a == b
  | _, _ => false
theorem eqAt_V {A : Around} {s : Shared} {y x : V} {u v : Value} (ry : RelV y u) (rx : RelV x v) (fy : flatV y = true) (fx : flatV x = true) : SeqAt.EqAt A s u v (eqV y x) := by
  cases y with
  | non =>
    cases ry
    cases x with
    | non => cases rx; exact SeqAt.EqAt.same _
    | bl b => cases rx; exact SeqAt.EqAt.none_bool b
    | int b => obtain ⟨t, rfl⟩ := rx; exact SeqAt.EqAt.none_int b t
    | str b => obtain ⟨t, rfl⟩ := rx; exact SeqAt.EqAt.none_str b t
    | _ => exact absurd (show false = true from fx) Bool.false_ne_true
  | bl a =>
    cases ry
    cases x with
    | non => cases rx; exact SeqAt.EqAt.bool_none a
    | bl b => cases rx; exact SeqAt.EqAt.bool_bool a b
    | int b => obtain ⟨t, rfl⟩ := rx; exact SeqAt.EqAt.bool_int a b t
    | str b => obtain ⟨t, rfl⟩ := rx; exact SeqAt.EqAt.bool_str a b t
    | _ => exact absurd (show false = true from fx) Bool.false_ne_true
  | int a =>
    obtain ⟨t', rfl⟩ := ry
    cases x with
    | non => cases rx; exact SeqAt.EqAt.int_none a t'
    | bl b => cases rx; exact SeqAt.EqAt.int_bool a t' b
    | int b => obtain ⟨t, rfl⟩ := rx; exact SeqAt.EqAt.int_int a t' b t
    | str b => obtain ⟨t, rfl⟩ := rx; exact SeqAt.EqAt.int_str a t' b t
    | _ => exact absurd (show false = true from fx) Bool.false_ne_true
  | str a =>
    obtain ⟨t', rfl⟩ := ry
    cases x with
    | non => cases rx; exact SeqAt.EqAt.str_none a t'
    | bl b => cases rx; exact SeqAt.EqAt.str_bool a t' b
    | int b => obtain ⟨t, rfl⟩ := rx; exact SeqAt.EqAt.str_int a t' b t
    | str b => obtain ⟨t, rfl⟩ := rx; exact SeqAt.EqAt.str_str a t' b t
    | _ => exact absurd (show false = true from fx) Bool.false_ne_true
  | _ => exact absurd (show false = true from fy) Bool.false_ne_true
/-- the items' answers, read off the values (a value's own answer does not lean on its token) -/
def eqU (x : V) (u : Value) : Bool := match u with
  | .none => eqV .non x
  | .bool b => eqV (.bl b) x
  | .int i _ => eqV (.int i) x
  | .str z _ => eqV (.str z) x
  | _ => false
theorem eqU_of {x y : V} {u : Value} (r : RelV y u) (f : flatV y = true) : eqU x u = eqV y x := by
  cases y with
  | non => cases r; rfl
  | bl b => cases r; rfl
  | int i => obtain ⟨t, rfl⟩ := r; rfl
  | str z => obtain ⟨t, rfl⟩ := r; rfl
  | _ => exact absurd (show false = true from f) Bool.false_ne_true
theorem any_eqU {x : V} : ∀ {xs : List V} {us : List Value}, Vals xs us → xs.all flatV = true → us.any (eqU x) = xs.any fun y => eqV y x
  | _, _, .nil, _ => rfl
  | y :: xs, u :: us, .cons r t, f => by
    rw [List.all_cons, Bool.and_eq_true] at f
    rw [List.any_cons, List.any_cons, eqU_of r f.1, any_eqU t f.2]
theorem mem_eqAt {A : Around} {s : Shared} {x : V} {v : Value} (rx : RelV x v) (fx : flatV x = true) : ∀ {xs : List V} {us : List Value}, Vals xs us → xs.all flatV = true → ∀ u ∈ us, SeqAt.EqAt A s u v (eqU x u)
  | _, _, .nil, _ => fun u hu => by cases hu
  | y :: xs, u :: us, .cons r t, f => fun u' hu => by
    rw [List.all_cons, Bool.and_eq_true] at f
    rcases List.mem_cons.mp hu with rfl | hu
    · rw [eqU_of r f.1]; exact eqAt_V r rx f.1 fx
    · exact mem_eqAt rx fx t f.2 u' hu
def inV (x : V) (xs : List V) : Bool := xs.any fun y => eqV y x
/-- x in a list or tuple of flat items -/
def rIn (K : PySem.W.Frag) (neg : Bool) : R2 := fun x y H Q => ∃ p xs, y = .ref p ∧ (SqL K H p xs ∨ SqT K H p xs) ∧ flatV x = true ∧ xs.all flatV = true ∧ Q (.bl (if neg then !inV x xs else inV x xs)) H
theorem op_in_seq : OpR X (compareOp .In) (rIn X.K false) := by
  intro pins s σ H x y v u Q I rx ry h
  obtain ⟨p, xs, rfl, hq, fx, fs, q⟩ := h
  cases ry
  rcases hq with hq | hq
  · obtain ⟨its, r, pl, hz⟩ := I.list hq
    refine SeqAt.in_listAt (eqU x) pl.isList (fun w hw => mem_eqAt rx fx r fs w (by simpa using hw)) ⟨.bl _, H, I, rfl, ?_⟩
    rw [show its.toArray.any (eqU x) = its.any (eqU x) by simp, any_eqU r fs]
    exact q
  · obtain ⟨its, r, pl, hz⟩ := I.tuple hq
    refine SeqAt.in_tupleAt (eqU x) pl (fun w hw => mem_eqAt rx fx r fs w (by simpa using hw)) ⟨.bl _, H, I, rfl, ?_⟩
    rw [show its.toArray.any (eqU x) = its.any (eqU x) by simp, any_eqU r fs]
    exact q
theorem op_notIn_seq : OpR X (compareOp .NotIn) (rIn X.K true) := by
  intro pins s σ H x y v u Q I rx ry h
  obtain ⟨p, xs, rfl, hq, fx, fs, q⟩ := h
  cases ry
  rcases hq with hq | hq
  · obtain ⟨its, r, pl, hz⟩ := I.list hq
    refine SeqAt.notIn_listAt (eqU x) pl.isList (fun w hw => mem_eqAt rx fx r fs w (by simpa using hw)) ⟨.bl _, H, I, rfl, ?_⟩
    rw [show its.toArray.any (eqU x) = its.any (eqU x) by simp, any_eqU r fs]
    exact q
  · obtain ⟨its, r, pl, hz⟩ := I.tuple hq
    refine SeqAt.notIn_tupleAt (eqU x) pl (fun w hw => mem_eqAt rx fx r fs w (by simpa using hw)) ⟨.bl _, H, I, rfl, ?_⟩
    rw [show its.toArray.any (eqU x) = its.any (eqU x) by simp, any_eqU r fs]
    exact q
theorem op_notIn_str : OpR X (compareOp .NotIn) (fun x y H Q => ∃ i j, x = .str i ∧ y = .str j ∧ Q (.bl (!(!(Builtin.Str.occurrences j i 0 j.length 1).isEmpty))) H) := by
  intro pins s σ H x y v u Q I rx ry h
  obtain ⟨i, j, rfl, rfl, q⟩ := h
  obtain ⟨t, rfl⟩ := rx
  obtain ⟨t', rfl⟩ := ry
  exact notIn_str ⟨.bl _, H, I, rfl, q⟩

/-! ### len, list(x), tuple(x) of any list or tuple that is read -/
theorem call_len_seq : CallR X (.builtin "len") (fun xs H Q => ∃ p ys, xs = [.ref p] ∧ (SqL X.K H p ys ∨ SqT X.K H p ys) ∧ Q (.int ys.length) H) := by
  intro pins s σ H xs us Q I r h
  obtain ⟨p, ys, rfl, hq, q⟩ := h
  obtain ⟨u, rfl, rx⟩ := vals1 r
  cases rx
  have hn := line63
  rcases hq with hq | hq
  · obtain ⟨its, r', pl, hz⟩ := I.list hq
    have hlen := r'.length
    exact Calls.call_len_list pl.isList (by simp only [List.size_toArray] <;> omega) ⟨.int ys.length, H, I.tok _, ⟨s.toks + 1, by rw [List.size_toArray, hlen]⟩, q⟩
  · obtain ⟨its, r', pl, hz⟩ := I.tuple hq
    have hlen := r'.length
    exact len_tuple pl (by simp only [List.size_toArray] <;> omega) ⟨.int ys.length, H, I.tok _, ⟨s.toks + 1, by rw [List.size_toArray, hlen]⟩, q⟩
theorem call_len_str : CallR X (.builtin "len") (fun xs H Q => ∃ z, xs = [.str z] ∧ z.length ≤ sizeLine ∧ Q (.int z.length) H) := by
  intro pins s σ H xs us Q I r h
  obtain ⟨z, rfl, hz, q⟩ := h
  obtain ⟨u, rfl, t, rfl⟩ := vals1 r
  have hn := line63
  exact len_str (by omega) ⟨.int z.length, H, I.tok _, ⟨_, rfl⟩, q⟩
theorem CallR.or {f : Value} {r r' : List V → Hp → VK → Prop} (h : CallR X f r) (h' : CallR X f r') : CallR X f (fun xs H Q => r xs H Q ∨ r' xs H Q) := by
  intro pins s σ H xs us Q I rs q
  rcases q with q | q
  · exact h pins s σ H xs us Q I rs q
  · exact h' pins s σ H xs us Q I rs q
theorem call_list_of : CallR X (.type "list") (fun xs H Q => ∃ p ys, xs = [.ref p] ∧ (SqL X.K H p ys ∨ SqT X.K H p ys) ∧ ∀ l, H l = none → Q (.ref l) (upd H l (.lst ys))) := by
  intro pins s σ H xs us Q I r h
  obtain ⟨p, ys, rfl, hq, q⟩ := h
  obtain ⟨u, rfl, rx⟩ := vals1 r
  cases rx
  have fin : ∀ (its : List Value), Vals ys its → ys.length ≤ sizeLine → ∀ (h' : Heap) (c' : Nat), (∀ b o', s.heap.get? b = some o' → h'.get? b = some o') →
      h'.get? s.heap.objs.size = some { cls := .type "list", dict := none, data := .seq its.toArray c', slots := #[] } → EP X pins σ Q (.ref s.heap.objs.size) { s with heap := h' } := fun its r' hz h' c' kp e =>
    ⟨.ref s.heap.objs.size, _, I.laid (t' := s.toks) kp (Nat.le_refl _) (show ObjOk X.prog X.w _ h' _ (.lst ys) from ⟨hz, its, c', r', e⟩), rfl, q _ (I.hok.fresh (Nat.le_refl _))⟩
  rcases hq with hq | hq
  · obtain ⟨its, r', pl, hz⟩ := I.list hq
    have hlen := r'.length
    obtain ⟨o, ho, hc, n, hd⟩ := pl.isList
    exact call_list_seq p (.inl rfl) ho hc hd (fun h' c' kp e => fin its r' hz h' c' kp e) (by simp only [List.size_toArray] <;> omega)
  · obtain ⟨its, r', pl, hz⟩ := I.tuple hq
    have hlen := r'.length
    obtain ⟨o, ho, hc, n, hd⟩ := pl
    exact call_list_seq p (.inr rfl) ho hc hd (fun h' c' kp e => fin its r' hz h' c' kp e) (by simp only [List.size_toArray] <;> omega)
theorem call_tuple_of : CallR X (.type "tuple") (fun xs H Q => ∃ p ys, xs = [.ref p] ∧ ((SqL X.K H p ys ∧ ∀ l, H l = none → Q (.ref l) (upd H l (.tup ys))) ∨ (SqT X.K H p ys ∧ Q (.ref p) H))) := by
  intro pins s σ H xs us Q I r h
  obtain ⟨p, ys, rfl, h⟩ := h
  obtain ⟨u, rfl, rx⟩ := vals1 r
  cases rx
  rcases h with ⟨hq, q⟩ | ⟨hq, q⟩
  · obtain ⟨its, r', pl, hz⟩ := I.list hq
    have hlen := r'.length
    refine call_tuple_list pl.isList (fun h' kp => ?_) (by simp only [List.size_toArray] <;> omega)
    have I1 : Inv X pins σ H { s with heap := h' } := I.kept (t' := s.toks) kp
    have I2 : Inv X pins σ (upd H h'.objs.size (.tup ys)) { s with heap := h'.push { cls := .type "tuple", data := .seq its.toArray } } :=
      I1.laid (t' := s.toks) (fun b o e => Heap.get?_push_of_some _ e) (Nat.le_refl _) (show ObjOk X.prog X.w _ _ _ (.tup ys) from ⟨hz, its, r', IsTup.new _ _⟩)
    exact ⟨.ref h'.objs.size, _, I2, rfl, q _ (I1.hok.fresh (Nat.le_refl _))⟩
  · obtain ⟨its, r', pl, hz⟩ := I.tuple hq
    exact call_tuple_same pl ⟨.ref p, H, I, rfl, q⟩

/-! ### the call of a builtin's method: o.m(..) -/
/-- the value is of that builtin type -/
def tyV (K : PySem.W.Frag) (T : String) (x : V) (H : Hp) : Prop := match x with
  | .str _ => T = "str"
  | .int _ => T = "int"
  | .ref p => (T = "list" ∧ ∃ xs, SqL K H p xs) ∨ (T = "tuple" ∧ ∃ o, K.lookup p = some o ∧ o.cls = .type "tuple" ∧ o.dict = none) ∨
      (T = "dict" ∧ ((∃ kvs, H p = some (.dK kvs)) ∨ ∃ kvs, H p = some (.dT kvs))) ∨ (T = "set" ∧ ∃ S n, H p = some (.set S n))
  | _ => False
theorem tyV_is {pins : List (Addr × Obj)} {σ : St} {H : Hp} {s : Shared} {T : String} {x : V} {v : Value} (I : Inv X pins σ H s) (r : RelV x v) (ty : tyV X.K T x H) :
    s.TypeIs v T ∧ ∀ a, v = .ref a → ∃ ob, s.heap.get? a = some ob ∧ ob.dict = none := by
  cases x with
  | str z =>
    obtain ⟨t, rfl⟩ := r
    cases (show T = "str" from ty)
    exact ⟨typeIs_str s z t, fun _ e => nomatch e⟩
  | int i =>
    obtain ⟨t, rfl⟩ := r
    cases (show T = "int" from ty)
    exact ⟨typeIs_int s i t, fun _ e => nomatch e⟩
  | ref p =>
    cases r
    rcases ty with ⟨rfl, xs, hq⟩ | ⟨rfl, o, hk, hc, hd⟩ | ⟨rfl, hk⟩ | ⟨rfl, S, n, hk⟩
    · obtain ⟨its, _, pl, _⟩ := I.list hq
      refine ⟨pl.isList.typeIs, fun a e => ?_⟩
      cases e
      obtain ⟨o, n, e, c, hd, _⟩ := pl
      exact ⟨o, e, hd⟩
    · refine ⟨⟨o, I.kIn p o hk, hc⟩, fun a e => ?_⟩
      cases e
      exact ⟨o, I.kIn _ o hk, hd⟩
    · have z : ∃ o, s.heap.get? p = some o ∧ o.ExactDict := by
        rcases hk with ⟨kvs, hk⟩ | ⟨kvs, hk⟩
        · obtain ⟨_, _, _, _, o, _, _, e, ex, _⟩ := I.hok p _ hk
          exact ⟨o, e, ex⟩
        · obtain ⟨_, _, _, _, o, _, _, e, ex, _⟩ := I.hok p _ hk
          exact ⟨o, e, ex⟩
      obtain ⟨o, e, ex⟩ := z
      refine ⟨⟨o, e, ex.1⟩, fun a e2 => ?_⟩
      cases e2
      exact ⟨o, e, ex.2.1⟩
    · obtain ⟨o, _, _, _, e, ex, _⟩ := I.hok p _ hk
      refine ⟨⟨o, e, ex.1⟩, fun a e2 => ?_⟩
      cases e2
      exact ⟨o, e, ex.2.1⟩
  | _ => exact False.elim ty
def tBM0 (K : PySem.W.Frag) (T : String) (r : V → List V → Hp → VK → Prop) (to : TE) : TE := fun σ H Q => to σ H fun x H1 => tyV K T x H1 ∧ r x [] H1 Q
def tBM (K : PySem.W.Frag) (T : String) (r : V → List V → Hp → VK → Prop) (to : TE) (t : TA) : TE := fun σ H Q => to σ H fun x H1 => tyV K T x H1 ∧ t σ H1 fun xs H2 => r x xs H2 Q
variable {o e : Expr} {es : List Expr} {to : TE} {t : TA} {name : Str} {apos cpos : Pos} {T id : String} {r : V → List V → Hp → VK → Prop}
theorem pe_bm0 (pa : PlainAttrs T) (slot : Slot T name id) (hty : typeOf (.builtin id) = pure (.type "method_descriptor")) (hm : MtR X id r) (ho : PE X o to)
    (hbase : attributeBase o name X.env (eval o X.env) = eval o X.env := by rfl) (hline : (apos.endLine == cpos.line) = true := by rfl) : PE X (.Call (.Attribute o name apos) [] [] cpos) (tBM0 X.K T r to) := by
  intro pins s σ H Q I h
  refine wpAny_Call_method0_late hbase hline (thn (ho pins s σ H _ I h) fun v s1 ⟨x, H1, I1, r1, ty, q1⟩ => ?_)
  obtain ⟨h1, h2⟩ := tyV_is I1 r1 ty
  exact ⟨T, id, pa, slot, hty, h1, h2, Calls.callWith_builtin rfl (PySem.evalArgs_none (hm pins s1 σ H1 x [] v [] Q I1 r1 .nil q1))⟩
theorem pe_bm (pa : PlainAttrs T) (slot : Slot T name id) (hty : typeOf (.builtin id) = pure (.type "method_descriptor")) (hm : MtR X id r) (ho : PE X o to) (ha : PA X (e :: es) t)
    (hbase : attributeBase o name X.env (eval o X.env) = eval o X.env := by rfl)
    (hfew : ((backTo cpos (starEach (e :: es) X.env)).all (fun x => !x.1) && (backToKw cpos (keywordEach [] X.env)).all (fun x => x.1.isSome)
      && decide ((e :: es).length + ([] : List Keyword).length + (if ([] : List Keyword).isEmpty then 0 else 1) < 30)) = true := by rfl)
    (hline : (apos.endLine == cpos.line) = true := by rfl) (hs : starEach (e :: es) X.env = (false, eval e X.env) :: starEach es X.env := by rfl) (hplain : (backTo cpos (starEach es X.env)).any (·.1) = false := by rfl) :
    PE X (.Call (.Attribute o name apos) (e :: es) [] cpos) (tBM X.K T r to t) := by
  intro pins s σ H Q I h
  refine wpAny_Call_method_late hbase hfew hline rfl (thn (ho pins s σ H _ I h) fun v s1 ⟨x, H1, I1, r1, ty, q1⟩ => ?_)
  obtain ⟨h1, h2⟩ := tyV_is I1 r1 ty
  refine ⟨T, id, pa, slot, hty, h1, h2, ?_⟩
  have hA := ha cpos pins s1 σ H1 _ I1 q1
  rw [hs] at hA ⊢
  refine Calls.callWith_builtin (by show (false || (backTo cpos (starEach es X.env)).any (·.1)) = false; rw [hplain] <;> rfl) (Calls.evalArgs_plain ?_)
  exact thn hA fun us s2 ⟨vs, H2, I2, r2, q2⟩ => hm pins s2 σ H2 x vs v us Q I2 r1 r2 q2
/- xs.append(e), list.index on a module's tuple .. are MtR facts of 06m -/
end
end L2

namespace L2
open PySem PySem.Spec PyProof.Rows

def MtM (X : Cx) (id : String) (r : V → List V → Hp → VK → Prop) : Prop :=
  ∀ (pins : List (Addr × Obj)) (s : Shared) (σ : St) (H : Hp) (x : V) (xs : List V) (v : Value) (us : List Value) (Q : VK), Inv X pins σ H s → RelV x v → Vals xs us → r x xs H Q →
    wpAny (model X.prog X.w) X.A (call (.builtin id) (v :: us)) (EP X pins σ Q) X.xe s

/-! ### lists of values -/
theorem Vals.one : ∀ {x : V} {us : List Value}, Vals [x] us → ∃ u, us = [u] ∧ RelV x u
  | _, _, .cons r .nil => ⟨_, rfl, r⟩
theorem Vals.two : ∀ {x y : V} {us : List Value}, Vals [x, y] us → ∃ u v, us = [u, v] ∧ RelV x u ∧ RelV y v
  | _, _, _, .cons r (.cons q .nil) => ⟨_, _, rfl, r, q⟩
theorem Vals.zero : ∀ {us : List Value}, Vals [] us → us = []
  | _, .nil => rfl
theorem Vals.dropLast {xs : List V} {us : List Value} (h : Vals xs us) : Vals xs.dropLast us.dropLast := by
  induction h with
  | nil => exact .nil
  | cons r t ih =>
    cases t with
    | nil => exact .nil
    | cons q t' => exact .cons r ih
theorem Vals.eraseIdx : ∀ {xs : List V} {us : List Value} (i : Nat), Vals xs us → Vals (xs.eraseIdx i) (us.eraseIdx i)
  | _, _, _, .nil => .nil
  | _, _, 0, .cons _ t => t
  | _, _, i + 1, .cons r t => .cons r (Vals.eraseIdx i t)
theorem Vals.reverse {xs : List V} {us : List Value} (h : Vals xs us) : Vals xs.reverse us.reverse := by
  induction h with
  | nil => exact .nil
  | cons r t ih => rw [List.reverse_cons, List.reverse_cons]; exact Vals.append ih (.cons r .nil)
theorem Vals.rep {xs : List V} {us : List Value} (h : Vals xs us) : ∀ k : Nat, Vals (List.replicate k xs).flatten (List.replicate k us).flatten
  | 0 => .nil
  | k + 1 => by
    rw [List.replicate_succ, List.replicate_succ, List.flatten_cons, List.flatten_cons]
    exact Vals.append h (Vals.rep h k)
theorem erase_last {α : Type} (l : List α) : l.eraseIdx (l.length - 1) = l.dropLast := by
  induction l with
  | nil => rfl
  | cons a r ih =>
    cases r with
    | nil => rfl
    | cons b r =>
      have e : (a :: b :: r).length - 1 = ((b :: r).length - 1) + 1 := by
        have h1 : (a :: b :: r).length = r.length + 2 := rfl
        have h2 : (b :: r).length = r.length + 1 := rfl
        omega
      rw [e, List.eraseIdx_cons_succ, ih]
      all_goals rfl
theorem len_erase {α : Type} : ∀ (l : List α) (i : Nat), (l.eraseIdx i).length ≤ l.length
  | [], _ => Nat.le_refl _
  | _ :: _, 0 => Nat.le_succ _
  | _ :: r, i + 1 => Nat.succ_le_succ (len_erase r i)
theorem foldl_rep (its : List Value) : ∀ (k : Nat) (acc : List Value),
    List.foldl (fun x1 x2 => x1 ++ x2) acc.toArray (List.replicate k its.toArray) = (acc ++ (List.replicate k its).flatten).toArray
  | 0, acc => by simp
  | k + 1, acc => by
    have e : acc.toArray ++ its.toArray = (acc ++ its).toArray := by simp
    have e2 : (acc ++ its) ++ (List.replicate k its).flatten = acc ++ (List.replicate (k + 1) its).flatten := by
      rw [List.replicate_succ, List.flatten_cons, List.append_assoc]
    rw [← e2, ← foldl_rep its k (acc ++ its), ← e, List.replicate_succ, List.foldl_cons]

section
variable {X : Cx} {pins : List (Addr × Obj)} {σ : St} {H : Hp} {s : Shared} {l b : Addr} {xs ys zs : List V}

/-! ### the two steps: a tracked list is rewritten, a new list is laid -/
theorem Inv.lset {its its' : List Value} {n : Nat} {f : Array Value → Array Value} {t' : Nat} (I : Inv X pins σ H s) (hH : H l = some (.lst xs))
    (e : s.heap.get? l = some { cls := .type "list", data := .seq its.toArray n }) (hf : f its.toArray = its'.toArray) (hv : Vals ys its') (hz : ys.length ≤ sizeLine) :
    Inv X pins σ (upd H l (.lst ys)) { s with heap := s.heap.update l (Obj.mapSeq f), toks := t' } := by
  have q := PySem.IsL.update e f
  rw [hf] at q
  refine I.write (x := l) (e := l) (by rw [hH]; exact trivial) (.inl rfl) (fun b' u hb hu => (Heap.get?_update_other s.heap (Obj.mapSeq f) (Ne.symm hb)).trans hu) ⟨_, q⟩ ?_
  exact ⟨hz, its', _, hv, q⟩
theorem Inv.lnew {its : List Value} {t' : Nat} (I : Inv X pins σ H s) (hv : Vals ys its) (hz : ys.length ≤ sizeLine) :
    Inv X pins σ (upd H s.heap.objs.size (.lst ys)) { s with heap := s.heap.push { cls := .type "list", data := .seq its.toArray }, toks := t' } :=
  I.laid (fun _ _ q => Heap.get?_push_of_some _ q) (Nat.le_refl _) ⟨hz, its, 0, hv, Heap.get?_push_size _ rfl⟩
theorem Inv.fresh (I : Inv X pins σ H s) : H s.heap.objs.size = none := I.hok.fresh (Nat.le_refl _)
theorem Inv.lstM (I : Inv X pins σ H s) (hH : H l = some (.lst xs)) : xs.length ≤ sizeLine ∧ ∃ (its : List Value) (n : Nat), Vals xs its ∧ xs.length = its.length ∧ s.heap.get? l = some { cls := .type "list", data := .seq its.toArray n } := by
  obtain ⟨z, its, n, r, e⟩ := I.hok l _ hH
  exact ⟨z, its, n, r, r.length, e⟩

theorem notLongL {n : Nat} (h : n ≤ sizeLine) : Builtin.List.listTooLong n = false := by
  unfold Builtin.List.listTooLong
  exact decide_eq_false (by omega)
end

section
variable {X : Cx}

/-! ### methods -/
def rAppend : V → List V → Hp → VK → Prop := fun x vs H Q => ∃ l xs y, x = .ref l ∧ vs = [y] ∧ H l = some (.lst xs) ∧ xs.length < sizeLine ∧ Q .non (upd H l (.lst (xs ++ [y])))
theorem mt_append : MtM X "list.append" rAppend := by
  intro pins s σ H x vs v us Q I rx rv h
  obtain ⟨l, xs, y, rfl, rfl, hH, hz, q⟩ := h
  cases rx
  obtain ⟨u, rfl, ru⟩ := rv.one
  obtain ⟨z, its, n, r, hl, e⟩ := I.lstM hH
  refine call_meets F.slot_list_append ⟨_, e, rfl⟩ F.entry_list_append (F.args_list_append_2 _ _) (PySem.list_append l its.toArray n u (by rw [List.size_toArray]; omega)) ⟨e, ?_⟩
  refine ⟨.non, _, I.lset (its' := its ++ [u]) hH e (by simp) (r.append (.cons ru .nil)) ?_, rfl, q⟩
  rw [List.length_append, List.length_singleton]
  omega

def rExtend : V → List V → Hp → VK → Prop := fun x vs H Q => ∃ l b xs zs, x = .ref l ∧ vs = [.ref b] ∧ H l = some (.lst xs) ∧ H b = some (.lst zs) ∧ xs.length + zs.length ≤ sizeLine ∧ Q .non (upd H l (.lst (xs ++ zs)))
theorem mt_extend : MtM X "list.extend" rExtend := by
  intro pins s σ H x vs v us Q I rx rv h
  obtain ⟨l, b, xs, zs, rfl, rfl, hH, hB, hz, q⟩ := h
  cases rx
  obtain ⟨u, rfl, ru⟩ := rv.one
  cases ru
  obtain ⟨z, its, n, r, hl, e⟩ := I.lstM hH
  obtain ⟨z2, its2, n2, r2, hl2, e2⟩ := I.lstM hB
  have hsz : its.toArray.size + its2.toArray.size ≤ sizeLine := by rw [List.size_toArray, List.size_toArray]; omega
  have hlong : ¬ (!its.toArray.isEmpty && Builtin.List.listTooLong (its.toArray.size + its2.toArray.size)) = true := by
    rw [notLongL hsz, Bool.and_false]
    exact Bool.false_ne_true
  refine call_meets F.slot_list_extend ⟨_, e, rfl⟩ F.entry_list_extend (F.args_list_extend_2 _ _)
    (AutoSeq1.list_extend_list_list_0 l its.toArray n b its2.toArray n2 hlong (by rw [List.size_toArray]; omega) (by omega)) ⟨e, e2, ?_⟩
  refine ⟨.non, _, I.lset (its' := its ++ its2) hH e (by simp) (r.append r2) ?_, rfl, q⟩
  rw [List.length_append]
  omega

def rPop : V → List V → Hp → VK → Prop := fun x vs H Q => ∃ l xs y, x = .ref l ∧ vs = [] ∧ H l = some (.lst xs) ∧ xs[xs.length - 1]? = some y ∧ Q y (upd H l (.lst xs.dropLast))
theorem mt_pop : MtM X "list.pop" rPop := by
  intro pins s σ H x vs v us Q I rx rv h
  obtain ⟨l, xs, y, rfl, rfl, hH, hy, q⟩ := h
  cases rx
  have hus := rv.zero
  subst hus
  obtain ⟨z, its, n, r, hl, e⟩ := I.lstM hH
  obtain ⟨u, hu, ru⟩ := r.get hy
  have hy' : its.toArray[its.toArray.size - 1]? = some u := by
    show its.toArray[its.length - 1]? = some u
    rw [← Array.getElem?_toList, ← hl]
    exact hu
  refine call_meets F.slot_list_pop ⟨_, e, rfl⟩ F.entry_list_pop (F.args_list_pop_1 _) (MeetsSeq.list_pop_last l its.toArray n u hy' (by rw [List.size_toArray]; omega)) ⟨e, ?_⟩
  refine ⟨y, _, I.lset (its' := its.dropLast) hH e ?_ r.dropLast ?_, ru, q⟩
  · show its.toArray.eraseIdxIfInBounds (its.toArray.size - 1) = its.dropLast.toArray
    rw [List.size_toArray, List.eraseIdxIfInBounds_toArray, erase_last]
  · rw [List.length_dropLast]
    omega

def rPopAt : V → List V → Hp → VK → Prop := fun x vs H Q => ∃ l xs i k y, x = .ref l ∧ vs = [.int i] ∧ H l = some (.lst xs) ∧ -(2 ^ 63) ≤ i ∧ i < 2 ^ 63 ∧ seqIndex? i xs.length = some k ∧ xs[k]? = some y ∧ Q y (upd H l (.lst (xs.eraseIdx k)))
theorem mt_popAt : MtM X "list.pop" rPopAt := by
  intro pins s σ H x vs v us Q I rx rv h
  obtain ⟨l, xs, i, k, y, rfl, rfl, hH, h1, h2, hk, hy, q⟩ := h
  cases rx
  obtain ⟨u, rfl, ru⟩ := rv.one
  obtain ⟨t, rfl⟩ := ru
  obtain ⟨z, its, n, r, hl, e⟩ := I.lstM hH
  obtain ⟨w, hw, rw'⟩ := r.get hy
  refine call_meets F.slot_list_pop ⟨_, e, rfl⟩ F.entry_list_pop (F.args_list_pop_2 _ _)
    (MeetsSeq.list_pop_at l its.toArray n i t k w (fitsIndex_both h1 h2) (by rw [List.size_toArray, ← hl]; exact hk) (by rw [← Array.getElem?_toList]; exact hw) (by rw [List.size_toArray]; omega)) ⟨e, ?_⟩
  refine ⟨y, _, I.lset (its' := its.eraseIdx k) hH e ?_ (r.eraseIdx k) ?_, rw', q⟩
  · show its.toArray.eraseIdxIfInBounds k = (its.eraseIdx k).toArray
    rw [List.eraseIdxIfInBounds_toArray]
  · have := len_erase xs k
    omega

def rReverse : V → List V → Hp → VK → Prop := fun x vs H Q => ∃ l xs, x = .ref l ∧ vs = [] ∧ H l = some (.lst xs) ∧ Q .non (upd H l (.lst xs.reverse))
theorem mt_reverse : MtM X "list.reverse" rReverse := by
  intro pins s σ H x vs v us Q I rx rv h
  obtain ⟨l, xs, rfl, rfl, hH, q⟩ := h
  cases rx
  have hus := rv.zero
  subst hus
  obtain ⟨z, its, n, r, hl, e⟩ := I.lstM hH
  refine call_meets F.slot_list_reverse ⟨_, e, rfl⟩ F.entry_list_reverse (F.args_list_reverse_1 _) (AutoSeq1.list_reverse_list_0 l its.toArray n (by rw [List.size_toArray]; omega)) ⟨e, ?_⟩
  refine ⟨.non, _, I.lset (its' := its.reverse) hH e (by simp) r.reverse ?_, rfl, q⟩
  rw [List.length_reverse]
  omega

def rClear : V → List V → Hp → VK → Prop := fun x vs H Q => ∃ l xs, x = .ref l ∧ vs = [] ∧ H l = some (.lst xs) ∧ Q .non (upd H l (.lst []))
theorem mt_clear : MtM X "list.clear" rClear := by
  intro pins s σ H x vs v us Q I rx rv h
  obtain ⟨l, xs, rfl, rfl, hH, q⟩ := h
  cases rx
  have hus := rv.zero
  subst hus
  obtain ⟨z, its, n, r, hl, e⟩ := I.lstM hH
  refine call_meets F.slot_list_clear ⟨_, e, rfl⟩ F.entry_list_clear (F.args_list_clear_1 _) (AutoSeq1.list_clear_list_0 l its.toArray n (by rw [List.size_toArray]; omega)) ⟨e, ?_⟩
  exact ⟨.non, _, I.lset (its' := []) (ys := []) hH e rfl .nil (Nat.zero_le _), rfl, q⟩

/-! ### list + list, list += list, list * int -/
def rCat : R2 := fun x y H Q => ∃ l b xs zs, x = .ref l ∧ y = .ref b ∧ H l = some (.lst xs) ∧ H b = some (.lst zs) ∧ xs.length + zs.length ≤ sizeLine ∧ ∀ p, H p = none → Q (.ref p) (upd H p (.lst (xs ++ zs)))
theorem op_cat : OpR X (binaryOp .Add) rCat := by
  intro pins s σ H x y v u Q I rx ry h
  obtain ⟨l, b, xs, zs, rfl, rfl, hH, hB, hz, q⟩ := h
  cases rx
  cases ry
  obtain ⟨z, its, n, r, hl, e⟩ := I.lstM hH
  obtain ⟨z2, its2, n2, r2, hl2, e2⟩ := I.lstM hB
  refine PySem.P.add_list e e2 ?_ (by rw [List.size_toArray, List.size_toArray]; omega)
  have ea : its.toArray ++ its2.toArray = (its ++ its2).toArray := by simp
  rw [ea]
  exact ⟨.ref _, _, I.lnew (t' := s.toks) (r.append r2) (by rw [List.length_append]; omega), rfl, q _ I.fresh⟩
/-- a list times an int (a negative one is nothing) -/
def rRep : R2 := fun x y H Q => ∃ l k xs, x = .ref l ∧ y = .int k ∧ H l = some (.lst xs) ∧ -(2 ^ 63) ≤ k ∧ k < 2 ^ 63 ∧ xs.length * k.toNat ≤ sizeLine ∧
  ∀ p, H p = none → Q (.ref p) (upd H p (.lst (List.replicate k.toNat xs).flatten))
theorem len_rep {α : Type} (xs : List α) (k : Nat) : (List.replicate k xs).flatten.length = k * xs.length := by
  induction k with
  | zero => simp
  | succ k ih => rw [List.replicate_succ, List.flatten_cons, List.length_append, ih, Nat.succ_mul, Nat.add_comm]
theorem op_rep : OpR X (binaryOp .Mult) rRep := by
  intro pins s σ H x y v u Q I rx ry h
  obtain ⟨l, k, xs, rfl, rfl, hH, h1, h2, hz, q⟩ := h
  cases rx
  obtain ⟨t, rfl⟩ := ry
  obtain ⟨z, its, n, r, hl, e⟩ := I.lstM hH
  have hlen : its.toArray.size * k.toNat ≤ sizeLine := by rw [List.size_toArray, ← hl]; exact hz
  have hcap : ¬ its.toArray.size * k.toNat > (2 ^ 63 - 1) / 8 := by
    have : (sizeLine : Nat) ≤ (2 ^ 63 - 1) / 8 := by decide
    omega
  have hfit : ¬ (!Builtin.List.listFitsIndex k) = true := by
    rw [fitsIndex_both h1 h2]
    exact Bool.false_ne_true
  have hlong : ¬ Builtin.List.listTooLong (its.toArray.size * k.toNat) = true := by
    rw [notLongL hlen]
    exact Bool.false_ne_true
  have hnew : List.foldl (fun x1 x2 => x1 ++ x2) #[] (List.replicate (if its.toArray.isEmpty = true then 0 else k.toNat) its.toArray) = (List.replicate k.toNat its).flatten.toArray := by
    have f0 : ∀ m : Nat, List.foldl (fun x1 x2 => x1 ++ x2) #[] (List.replicate m its.toArray) = (List.replicate m its).flatten.toArray := fun m => by
      have := foldl_rep its m []
      rw [List.nil_append] at this
      exact this
    rw [f0]
    cases its with
    | nil => simp
    | cons a r' => rw [if_neg (by simp)]
  refine wpAny_binaryOp_repeat_ref (T := "list") (U := "int") (by decide) ⟨_, e, rfl⟩ (fun s' => typeIs_int s' k t) noFill_list_mul F.fills_int_mul F.slot_int_rmul repeat_list F.slot_int_index.lookup
    (call_meets F.slot_int_rmul (typeIs_int s k t) F.entry_int_rmul (F.args_int_rmul_2 _ _) (int___rmul___int_list k t l its.toArray n)
      ⟨e, rfl, ⟨_, e, rfl⟩, call_meets F.slot_list_mul ⟨_, e, rfl⟩ F.entry_list_mul (F.args_list_mul_2 _ _) (AutoListH.list___mul___list_int_3 l its.toArray n k t hfit hcap hlong) ⟨e, ?_⟩⟩)
  rw [hnew]
  exact ⟨.ref _, _, I.lnew (t' := s.toks) (r.rep k.toNat) (by rw [len_rep, Nat.mul_comm]; exact hz), rfl, q _ I.fresh⟩

/-! ### del xs[i] -/
theorem del_list {pins : List (Addr × Obj)} {s : Shared} {σ : St} {H : Hp} {l : Addr} {xs : List V} {i : Int} {t : Tok} {k : Nat} {Q : Unit → Shared → Prop} (I : Inv X pins σ H s) (hH : H l = some (.lst xs))
    (h1 : -(2 ^ 63) ≤ i) (h2 : i < 2 ^ 63) (hk : seqIndex? i xs.length = some k) (h : ∀ s', Inv X pins σ (upd H l (.lst (xs.eraseIdx k))) s' → Q () s') :
    wpAny (model X.prog X.w) X.A (delItem (.ref l) (.int i t)) Q X.xe s := by
  obtain ⟨z, its, n, r, hl, e⟩ := I.lstM hH
  refine PySem.P.delItem_list (k := k) e (fitsIndex_both h1 h2) (by rw [List.size_toArray, ← hl]; exact hk) (h _ ?_) (by rw [List.size_toArray]; omega)
  refine I.lset (its' := its.eraseIdx k) (t' := s.toks) hH e ?_ (r.eraseIdx k) ?_
  · show its.toArray.eraseIdxIfInBounds k = (its.eraseIdx k).toArray
    rw [List.eraseIdxIfInBounds_toArray]
  · have := len_erase xs k
    omega
end

/-! ### xs[a:b] = ys -/
section
variable {prog : Program} {w : World} {A : Around} {E : Value → Shared → Prop} {s : Shared}
theorem splice_eq (its its2 : List Value) (a c : Nat) : its.toArray.extract 0 a ++ its2.toArray ++ its.toArray.extract c its.toArray.size = (its.take a ++ its2 ++ its.drop c).toArray := by
  apply Array.toList_inj.mp
  first
    | (simp
       exact List.take_of_length_le (by simp))
    | simp [List.take_of_length_le]
    | simp
theorem bounds_run {a c n : Nat} (hac : a ≤ c) (hc : c ≤ n) : sliceBounds (some (a : Int)) (some (c : Int)) none n = ((a : Int), (c : Int), 1) := by
  simp only [sliceBounds, Option.getD_none]
  have h1 : ¬ ((a : Int) < 0) := by omega
  have h2 : ¬ ((c : Int) < 0) := by omega
  simp only [h1, h2, if_false, show (1 : Int) > 0 by decide, if_true]
  congr 1
  · omega
  · congr 1; omega
set_option maxRecDepth 100000 in
/-- list.__setitem__ with a slice of step one and another list -/
theorem setItem_slice {l b sl : Addr} {items new : Array Value} {n n2 : Nat} {vl vu : Value} {a c : Nat} {Q : Unit → Shared → Prop}
    (e : s.heap.get? l = some { cls := .type "list", data := .seq items n }) (e2 : s.heap.get? b = some { cls := .type "list", data := .seq new n2 }) (hne : l ≠ b)
    (hs : s.heap.IsSliceOf sl vl vu .none) (pl : IsPart vl (some (a : Int))) (pu : IsPart vu (some (c : Int))) (hac : a ≤ c) (hc : c ≤ items.size)
    (hsz : items.size + new.size ≤ sizeLine) (h : Q () { s with heap := s.heap.update l (Obj.mapSeq fun xs => xs.extract 0 a ++ new ++ xs.extract c xs.size) }) :
    wpAny (model prog w) A (setItem (.ref l) (.ref sl) (.ref b)) Q E s := by
  have hl : s.heap.IsList l items := PySem.IsL.isList e
  have hb : s.heap.IsList b new := PySem.IsL.isList e2
  obtain ⟨os, hos, hcs, hds⟩ := id hs
  have hTs : s.TypeIs (.ref sl) "slice" := ⟨os, hos, hcs⟩
  have hstep : ¬ ((rawPart none == rawInt 0) = true) := Bool.false_ne_true
  have hsame : Builtin.List.listSameRef (.ref l) (.ref b) = false := by
    unfold Builtin.List.listSameRef
    exact beq_eq_false_iff_ne.mpr hne
  have hmax : (max (a : Int) (c : Int)).toNat = c := by omega
  have hz' : ((fun xs : Array Value => xs.extract 0 a ++ new ++ xs.extract c xs.size) items).size ≤ sizeLine + 1 := by
    simp only [Array.size_append, Array.size_extract]
    omega
  unfold setItem
  try with_reducible refine wpAny_holding ?_
  first | refine wpAny_bind (wpAny_pure ?_) | skip
  refine wpAny_bind (wpAny_sequenceKey hl.typeIs (by decide) ?_)
  refine wpAny_bind (wpAny_callSpecial?_slot (name := Str.ofString "__setitem__") hl.typeIs slot_list_setitem
    (wpAny_call_entry slot_list_setitem hl.typeIs entry_list_setitem ?_ (args_list_setitem _ _ _)))
  show wpAny _ _ (Builtin.List.listSubscript? (.ref sl) >>= _) _ _ s
  refine wpAny_bind ?_
  unfold Builtin.List.listSubscript?
  refine wpAny_bind (wpAny_specialOf hTs slice_no_index ?_)
  simp only [Option.isNone_none, if_true]
  refine wpAny_pure ?_
  show wpAny _ _ (typeOf (.ref sl) >>= _) _ _ s
  refine wpAny_bind (wpAny_typeOf hTs ?_)
  first
    | rw [if_neg (by decide)]
    | refine PySem.W.KFB.if_not (by decide) ?_
  rw [listSliceParts_eq]
  refine wpAny_bind (wpAny_bind (wpAny_field hos hds (x := .none) rfl (wpAny_bind (wpAny_listPart .none ?_))))
  rw [if_neg hstep]
  refine wpAny_bind (wpAny_field hos hds (x := vl) rfl (wpAny_bind (wpAny_listPart pl ?_)))
  refine wpAny_bind (wpAny_field hos hds (x := vu) rfl (wpAny_bind (wpAny_listPart pu (wpAny_pure ?_))))
  first
    | simp only [hsame, Bool.false_eq_true, if_false]
    | refine PySem.W.KFB.if_not hsame ?_
    | (dsimp only
       rw [if_neg (by rw [hsame]; exact Bool.false_ne_true)])
  refine wpAny_bind (m := Builtin.List.listAllItems (.ref b) "must assign iterable to extended slice") ?_
  unfold Builtin.List.listAllItems
  refine wpAny_bind (wpAny_typeOf hb.typeIs ?_)
  first
    | refine PySem.W.KFB.if_so (by decide) ?_
    | rw [if_pos (by decide)]
    | simp only [beq_self_eq_true, Bool.true_or, if_true]
  unfold Builtin.List.listItems
  refine wpAny_bind (wpAny_seqItems e2 rfl (wpAny_pure ?_))
  refine wpAny_bind (wpAny_bind (wpAny_seqItems e rfl (wpAny_pure ?_)))
  refine wpAny_bind (wpAny_of_eq ((sliceIndices_raw (some (a : Int)) (some (c : Int)) none items.size (by simp)).trans (congrArg (pure : Int × Int × Int → Sem (Int × Int × Int)) (bounds_run hac hc))) ?_)
  show wpAny _ _ (if ((1 : Int) == 1) = true then _ else _) _ _ s
  rw [if_pos (by decide)]
  refine wpAny_bind (wpAny_rule ?_)
  first
    | simp only [notLongL hsz, Bool.false_eq_true, if_false]
    | refine PySem.W.KFB.if_not (notLongL hsz) ?_
  first | refine wpAny_bind (wpAny_pure ?_) | skip
  show wpAny _ _ (updateSeq l (fun xs => xs.extract 0 ((a : Int)).toNat ++ new ++ xs.extract (max (a : Int) (c : Int)).toNat xs.size) >>= _) _ _ s
  rw [hmax, Int.toNat_natCast]
  refine wpAny_bind (wpAny_updateSeq (hz := Nat.le_trans (Nat.le_add_right _ _) hsz) (_hz' := hz') e rfl ?_)
  refine wpAny_bind (wpAny_letGo ?_)
  first
    | exact wpAny_bind (wpAny_pure (wpAny_pure ⟨.none, rfl, wpAny_pure h⟩))
    | exact wpAny_pure ⟨.none, rfl, wpAny_pure h⟩
end

section
variable {X : Cx}
/-- xs[a:c] = ys of another list, at the value level: sl is the slice object that was just made -/
theorem set_slice {pins : List (Addr × Obj)} {s : Shared} {σ : St} {H : Hp} {l b sl : Addr} {xs ys : List V} {a c : Int} {vl vu : Value} {Q : Unit → Shared → Prop} (I : Inv X pins σ H s)
    (hH : H l = some (.lst xs)) (hB : H b = some (.lst ys)) (hne : l ≠ b) (hs : s.heap.IsSliceOf sl vl vu .none) (ra : RelV (.int a) vl) (rc : RelV (.int c) vu) (h0 : 0 ≤ a) (hac : a ≤ c) (hc : c ≤ xs.length)
    (hz : xs.length + ys.length ≤ sizeLine) (h : ∀ s', Inv X pins σ (upd H l (.lst (xs.take a.toNat ++ ys ++ xs.drop c.toNat))) s' → Q () s') :
    wpAny (model X.prog X.w) X.A (setItem (.ref l) (.ref sl) (.ref b)) Q X.xe s := by
  obtain ⟨ta, rfl⟩ := ra
  obtain ⟨tc, rfl⟩ := rc
  obtain ⟨z, its, n, r, hl, e⟩ := I.lstM hH
  obtain ⟨z2, its2, n2, r2, hl2, e2⟩ := I.lstM hB
  obtain ⟨a', rfl⟩ := Int.eq_ofNat_of_zero_le h0
  obtain ⟨c', rfl⟩ := Int.eq_ofNat_of_zero_le (Int.le_trans h0 hac)
  simp only [Int.toNat_natCast] at h
  refine setItem_slice (a := a') (c := c') e e2 hne hs (.int _ _) (.int _ _) (by omega) (by rw [List.size_toArray]; omega) (by rw [List.size_toArray, List.size_toArray]; omega) (h _ ?_)
  refine I.lset (its' := its.take a' ++ its2 ++ its.drop c') (t' := s.toks) hH e ?_ (Vals.append (Vals.append (r.take _) r2) (r.drop _)) ?_
  · exact splice_eq its its2 a' c'
  · rw [List.length_append, List.length_append, List.length_take, List.length_drop]
    omega
end
end L2

namespace Att
open PySem PySem.W PySem.Calls PyProof.Rows

/-! ### the script -/
theorem ints_of_wellAll {P : Params} {h : Heap} : ∀ (ns : List Int) (vs : List Value), WellAll P h vs (ns.map WData.int) → IntsAre vs ns := by
  intro ns
  induction ns with
  | nil =>
    intro vs w
    rw [List.map_nil] at w
    cases w
    exact .nil
  | cons n ns ih =>
    intro vs w
    rw [List.map_cons] at w
    cases w with
    | cons a b =>
      cases a
      exact .cons _ _ (ih _ b)

theorem script_of {l : OpenLaw} {n : Nat} (hn : l.most = some n) {P : Params} {h : Heap} {args : List WData} {vals : List Value}
    (hpre : l.row.toRowW.claim.pre args = true) (hwl : WellAll P h vals args) :
    ∃ a vs ns, vals = [Value.ref a] ∧ args = [WData.list (ns.map WData.int)] ∧ h.get? a = some { cls := .type "list", data := .seq vs.toArray } ∧ IntsAre vs ns ∧ ns.length ≤ n := by
  have hsh : WShape.hasAll [] args [.list .int] = true := (pre_splitW hpre).1
  have hc : l.pre.holds [] { args := args } = true := (pre_splitW hpre).2
  obtain ⟨d, r, rfl, h1, h2⟩ := hasAllW_cons hsh
  obtain rfl := hasAllW_nil h2
  obtain ⟨xs, rfl, h3⟩ := hasW_list h1
  obtain ⟨ns, rfl⟩ := items_int h3
  have hlen : ns.length ≤ n := by
    unfold OpenLaw.pre at hc
    have h4 : (WTm.not (.lt (.lit (.int (n : Int))) (.len (.arg 0)))).holds [] { args := [.list (ns.map .int)] } = true := by
      have h4 := (holds_andW hc).1
      rw [hn] at h4
      exact h4
    have h5 := condW_of h4 (w_not (w_lt w_lit (w_len_list (w_arg rfl))))
    rw [List.length_map] at h5
    refine Nat.le_of_not_lt fun q => ?_
    have q' : (n : Int) < ((ns.length : Nat) : Int) := by omega
    first
      | (rw [decide_eq_true q'] at h5; exact absurd h5 (by decide))
      | (simp at h5; omega)
  cases hwl with
  | cons w1 w2 =>
    cases w2
    cases w1 with
    | list ho hall => exact ⟨_, _, ns, rfl, rfl, ho, ints_of_wellAll ns _ hall, hlen⟩

theorem post_true (l : OpenLaw) (args : List WData) : l.row.toRowW.claim.post args (.bool true) args = true :=
  postW_of (r := l.row.toRowW) (X := (true == true))
    (show WShape.has [] (.bool true) .bool = true by first | rfl | decide | simp [WShape.has, WShape.arms, WShape.armsAll])
    (show (WTm.eq .res (.lit (.bool true))).value [] { args := args, res := some (.bool true), after := args } = some (.bool (true == true)) from w_eq_bool (w_res rfl) w_lit) rfl

/-! ### the attachment: holds_open's last premise (the goal 'hc' behind k_head) from a wpAny of the law's body -/
theorem attach {l : OpenLaw} {n : Nat} {q : Program} {loose : List Str} {XP : (Str → Option Value) → Heap → Prop} {YP : World → Heap → Prop} {d : DefRec} {x : Str}
    (hn : l.most = some n) (hdf : d.params.defaults = [])
    (hbind : ∀ pm cd doc v : Value, bindArgs (docDef d.name d.params d.body d.scope pm cd doc) ⟨[v], []⟩ = pure [(x, v)])
    (hx : d.scope.names.lookup x = some .local ∨ d.scope.names.lookup x = some .cell)
    (hk : d.scope.kind = .function) (hco : d.scope.isCoroutine = false) (hgen : d.scope.isGenerator = false)
    (body : ∀ (w : World) (s₀ s₁ s : Shared) (mg mb : Str → Option Value) (fa : Addr) (o : Obj) (pm cd doc : Value) (a : Addr) (vs : List Value) (ns : List Int),
      Ground q loose [] XP w s₀ mg mb s₁.heap → YP w s₁.heap →
      s₁.heap.get? fa = some o → o.data = .func (docDef d.name d.params d.body d.scope pm cd doc) → s₁.heap.CodeRec cd d.name → mg d.name = some (.ref fa) →
      s₁.heap.get? a = some { cls := .type "list", data := .seq vs.toArray } → IntsAre vs ns → ns.length ≤ n →
      s.gens = #[] → s.os = s₁.os →
      Fr s₁.heap s₁.heap.objs.size s.heap (bindL (envOfC d.name d.scope s₁.heap.objs.size fa cd).kindOf [(x, .ref a)] fun _ => none) →
      Cl s₁.heap.objs.size (cellsFrom (s₁.heap.objs.size + 1) d.scope.names []) s.heap (bindC (envOfC d.name d.scope s₁.heap.objs.size fa cd).kindOf [(x, .ref a)] fun _ => none) →
      wpAny (model l.prog w) (callerA.deeper (envOfC d.name d.scope s₁.heap.objs.size fa cd)) (execs d.body (envOfC d.name d.scope s₁.heap.objs.size fa cd))
        (fun f s' => f = .ret (.bool true) ∧ OldK s₁.heap s'.heap ∧ s'.os = s₁.os ∧ AllBare s'.gens) (fun _ _ => False) s) :
    WalkO q loose XP YP l.row.toRowW d [] (fun f vs => PySem.call f vs) := by
  intro w s₀ s₁ mg mb G Y fa o pm cd doc dV kV ho hd hcd hD hmg hg args vals as hpre hlay hrd hwl hlo
  obtain rfl : dV = .none := Dflts.none hD hdf
  obtain rfl : kV = .none := Dflts.noKw hD
  obtain ⟨a, vs, ns, rfl, rfl, hobj, hints, hlen⟩ := script_of hn hpre hwl
  refine enter_call ?_
  refine call_cells_ret (o := o) (by rw [depth_caller]; decide) ho (fd_plain hd) G.T.nolimit hcd (hbind pm cd doc (.ref a)) (fun y hy => ?_) (fun h₁ tk F X => ?_) hco hgen hk
  · obtain rfl : y = (x, Value.ref a) := List.mem_singleton.mp hy
    rcases hx with e | e
    · exact .inl e
    · exact .inr ⟨e, cellsFrom_some _ _ _ (.inl e)⟩
  · refine wpAny_mono (body w s₀ s₁ { s₁ with heap := h₁, toks := tk } mg mb fa o pm cd doc a vs ns G Y ho (fd_plain hd) hcd hmg hobj hints hlen hg rfl F X) (fun f s' hq => ?_) (fun _ _ hq => hq)
    obtain ⟨rfl, h2, h3, h4⟩ := hq
    exact ⟨.inl ⟨.bool true, .bool true, [], rfl, fun _ => rfl, .bool true, post_true l _, fun _ => ⟨List.Pairwise.nil, fun _ hm => (nomatch hm)⟩⟩, h2, h3, h4⟩

/-- the same from a codeAny of the CALL (for a layer whose function contracts speak of calls) -/
theorem attach_call {l : OpenLaw} {n : Nat} {q : Program} {loose : List Str} {XP : (Str → Option Value) → Heap → Prop} {YP : World → Heap → Prop} {d : DefRec}
    (hn : l.most = some n) (hdf : d.params.defaults = [])
    (call : ∀ (w : World) (s₀ s₁ : Shared) (mg mb : Str → Option Value) (fa : Addr) (o : Obj) (pm cd doc : Value) (a : Addr) (vs : List Value) (ns : List Int),
      Ground q loose [] XP w s₀ mg mb s₁.heap → YP w s₁.heap →
      s₁.heap.get? fa = some o → o.data = .func (docDef d.name d.params d.body d.scope pm cd doc) → s₁.heap.CodeRec cd d.name → mg d.name = some (.ref fa) →
      s₁.heap.get? a = some { cls := .type "list", data := .seq vs.toArray } → IntsAre vs ns → ns.length ≤ n → s₁.gens = #[] →
      codeAny (model l.prog w) callerA (.call (.ref fa) ⟨[.ref a], []⟩) (fun r s' => r = .ok (.ret (.bool true)) ∧ OldK s₁.heap s'.heap ∧ s'.os = s₁.os ∧ AllBare s'.gens) s₁) :
    WalkO q loose XP YP l.row.toRowW d [] (fun f vs => PySem.call f vs) := by
  intro w s₀ s₁ mg mb G Y fa o pm cd doc dV kV ho hd hcd hD hmg hg args vals as hpre hlay hrd hwl hlo
  obtain rfl : dV = .none := Dflts.none hD hdf
  obtain rfl : kV = .none := Dflts.noKw hD
  obtain ⟨a, vs, ns, rfl, rfl, hobj, hints, hlen⟩ := script_of hn hpre hwl
  refine enter_call (codeAny_mono (call w s₀ s₁ mg mb fa o pm cd doc a vs ns G Y ho (fd_plain hd) hcd hmg hobj hints hlen hg) fun r s' hq => ?_)
  obtain ⟨rfl, h2, h3, h4⟩ := hq
  exact ⟨.inl ⟨.bool true, .bool true, [], rfl, fun _ => rfl, .bool true, post_true l _, fun _ => ⟨List.Pairwise.nil, fun _ hm => (nomatch hm)⟩⟩, h2, h3, h4⟩

/-- the same where the top left finished generators (o_head chose holds_openN): nothing may have changed at all and no generator may be left -/
theorem attachN {l : OpenLaw} {n : Nat} {q : Program} {loose : List Str} {XP : (Str → Option Value) → Heap → Prop} {YP : World → Heap → Prop} {d : DefRec} {x : Str}
    (hn : l.most = some n) (hdf : d.params.defaults = [])
    (hbind : ∀ pm cd doc v : Value, bindArgs (docDef d.name d.params d.body d.scope pm cd doc) ⟨[v], []⟩ = pure [(x, v)])
    (hx : d.scope.names.lookup x = some .local ∨ d.scope.names.lookup x = some .cell)
    (hk : d.scope.kind = .function) (hco : d.scope.isCoroutine = false) (hgen : d.scope.isGenerator = false)
    (body : ∀ (w : World) (s₀ s₁ s : Shared) (mg mb : Str → Option Value) (fa : Addr) (o : Obj) (pm cd doc : Value) (a : Addr) (vs : List Value) (ns : List Int),
      Ground q loose [] XP w s₀ mg mb s₁.heap → YP w s₁.heap →
      s₁.heap.get? fa = some o → o.data = .func (docDef d.name d.params d.body d.scope pm cd doc) → s₁.heap.CodeRec cd d.name → mg d.name = some (.ref fa) →
      s₁.heap.get? a = some { cls := .type "list", data := .seq vs.toArray } → IntsAre vs ns → ns.length ≤ n →
      s.gens = #[] → s.os = s₁.os →
      Fr s₁.heap s₁.heap.objs.size s.heap (bindL (envOfC d.name d.scope s₁.heap.objs.size fa cd).kindOf [(x, .ref a)] fun _ => none) →
      Cl s₁.heap.objs.size (cellsFrom (s₁.heap.objs.size + 1) d.scope.names []) s.heap (bindC (envOfC d.name d.scope s₁.heap.objs.size fa cd).kindOf [(x, .ref a)] fun _ => none) →
      wpAny (model l.prog w) (callerA.deeper (envOfC d.name d.scope s₁.heap.objs.size fa cd)) (execs d.body (envOfC d.name d.scope s₁.heap.objs.size fa cd))
        (fun f s' => f = .ret (.bool true) ∧ (∀ b o, s₁.heap.get? b = some o → s'.heap.get? b = some o) ∧ s'.os = s₁.os ∧ s'.gens = #[]) (fun _ _ => False) s) :
    WalkN q loose XP YP l.row.toRowW d [] (fun f vs => PySem.call f vs) := by
  intro w s₀ s₁ mg mb G Y fa o pm cd doc dV kV ho hd hcd hD hmg hg args vals as hpre hlay hrd hwl hlo
  obtain rfl : dV = .none := Dflts.none hD hdf
  obtain rfl : kV = .none := Dflts.noKw hD
  obtain ⟨a, vs, ns, rfl, rfl, hobj, hints, hlen⟩ := script_of hn hpre hwl
  refine enter_callW ?_
  refine call_cells_ret (o := o) (by rw [depth_caller]; decide) ho (fd_plain hd) G.T.nolimit hcd (hbind pm cd doc (.ref a)) (fun y hy => ?_) (fun h₁ tk F X => ?_) hco hgen hk
  · obtain rfl : y = (x, Value.ref a) := List.mem_singleton.mp hy
    rcases hx with e | e
    · exact .inl e
    · exact .inr ⟨e, cellsFrom_some _ _ _ (.inl e)⟩
  · refine wpAny_mono (body w s₀ s₁ { s₁ with heap := h₁, toks := tk } mg mb fa o pm cd doc a vs ns G Y ho (fd_plain hd) hcd hmg hobj hints hlen hg rfl F X) (fun f s' hq => ?_) (fun _ _ hq => hq)
    obtain ⟨rfl, h2, h3, h4⟩ := hq
    exact ⟨.inl ⟨.bool true, .bool true, [], rfl, fun _ => rfl, .bool true, post_true l _, fun _ => ⟨List.Pairwise.nil, fun _ hm => (nomatch hm)⟩⟩, h2, h3, h4⟩

/-! ### rules over ANY heap (no ledger) from facts about the written part K: the library's own take a ledger (News) for what they write -/
section
variable {prog : Program} {w : World} {A : Around} {E : Value → Shared → Prop} {s : Shared} {K : Frag}

/-- a def of the module, or a method (qual 'C.m'), entered: the frame is the next address; cells behind it -/
theorem call_fn {R : Result → Shared → Prop} {name qual : Str} {params : Arguments} {body : List Stmt} {scope : Scope} {dV kV doc pm cdv ct oc : Value} {an od : Option Addr} {osl : Array (Option Value)} {f : Addr} {args : Args} {binds : List (Str × Value)}
    (X : K.In s.heap) (hlim : s.heap.NoLimit) (ho : K.lookup f = some ⟨oc, od, .func (fnOf name qual params body scope dV kV doc pm an cdv ct), osl⟩) (hcd : codeIn K cdv qual = true) (hroom : A.depth < recursionLimit)
    (hbind : BindsTo s (fnOf name qual params body scope dV kV doc pm an cdv ct) args binds)
    (hkind : (binds.all fun y => scope.names.lookup y.1 == some .local || scope.names.lookup y.1 == some .cell) = true)
    (h : ∀ s₁, InCallC s s.heap.objs.size (bindL (envOfC qual scope s.heap.objs.size f cdv).kindOf binds fun _ => none) (cellsFrom (s.heap.objs.size + 1) scope.names [])
        (bindC (envOfC qual scope s.heap.objs.size f cdv).kindOf binds fun _ => none) s₁ →
      wpAny (model prog w) (A.deeper (envOfC qual scope s.heap.objs.size f cdv)) (execs body (envOfC qual scope s.heap.objs.size f cdv))
        (fun fl s' => R (.ok (.ret (match fl with | .ret v => v | _ => .none))) s')
        (fun e s' => wpAny (model prog w) (A.deeper (envOfC qual scope s.heap.objs.size f cdv)) (leaving (envOfC qual scope s.heap.objs.size f cdv) e) (fun _ s'' => R (.error e) s'') (fun e' s'' => R (.error e') s'') s') s₁)
    (hco : scope.isCoroutine = false) (hgen : scope.isGenerator = false) (hk : scope.kind = .function) : codeAny (model prog w) A (.call (.ref f) args) R s := by
  refine codeAny_call_function hroom (X _ _ ho) rfl hco hgen rfl (codeRec_of X hcd) (hbind _ _ _ _ ?_)
  refine wpAny_newFunctionEnv_cells hk (kindsX hkind _) fun env he s₁ x => ?_
  subst he
  exact ⟨hlim.keeps x.toInCall.keep, codeAny_func (h s₁ x)⟩

/-- C(..): dict at size, instance at size + 1, then __init__ -/
theorem make_obj {R : Result → Shared → Prop} {C fI : Addr} {rest : List Value} {kw : List (Str × Value)}
    (X : K.In s.heap) (hm : makesIn K C = true) (hi : findIn K (.ref C) "__init__" = some (some (.ref fI))) (hf : isFn K (.ref fI) = true)
    (h : codeAny (model prog w) (A.under (.builtin "type.__call__" ⟨.ref C :: rest, kw⟩)) (.call (.ref fI) ⟨.ref (s.heap.objs.size + 1) :: rest, kw⟩) (InitBack (s.heap.objs.size + 1) R)
      { s with heap := (s.heap.push emptyDict).push (instObj C s.heap.objs.size) }) : codeAny (model prog w) A (.call (.ref C) ⟨rest, kw⟩) R s := by
  obtain ⟨hh, g, d, t, os⟩ := s
  exact make_core (makes_of X hm) (looks_findIn X hi) (fun self => bind_fn X self (beq_iff_eq.mp hf)) (.inl rfl) h

/-- x.name where the instance's dict holds the name and the class does not -/
theorem get_field {x C : Addr} {ox : Obj} {es : List DictEntry} {n : Nat} {name : Str} {expr : Bool} {v : Value} {Q : Value → Shared → Prop}
    (X : K.In s.heap) (I : PySem.W.InstAt s.heap x ox C (some (dictOf es n))) (hg : plainGet K C name = true) (hh : hasDictIn K C = true) (ha : findIn K (.ref C) name = some none)
    (hl : getL name es = some (some v)) (hv : handedIn v = true) (h : Q v { s with toks := s.toks + 1 }) : wpAny (model prog w) A (getAttr (.ref x) name expr) Q E s :=
  get_value X I (plainGet_of hg).1 (findObj_own hh ha rfl hl) hv h

/-- x.m(..): the method found in the class -/
theorem get_method {x C f : Addr} {ox : Obj} {es : List DictEntry} {n : Nat} {name : Str} {pl : Sem Bool} {Q : Value × List Value → Shared → Prop}
    (X : K.In s.heap) (I : PySem.W.InstAt s.heap x ox C (some (dictOf es n))) (hg : plainGet K C name = true) (hf : findIn K (.ref C) name = some (some (.ref f))) (ht : isFn K (.ref f) = true)
    (hl : getL name es = some none) (h : Q (.ref f, [.ref x]) s) : wpAny (model prog w) A (getMethod (.ref x) name pl) Q E s :=
  method_fn X I (plainGet_of hg).1 (plainGet_of hg).2 hf (beq_iff_eq.mp ht) (by show (lookIn name (dictOf es n)).map _ = _; rw [lookIn_dict, hl]; rfl) h

/-! the whole heap as the ledger: makes every rule that writes through a ledger a rule over any heap -/
def noObjs (h : Heap) : Heap := { h with objs := #[] }
theorem noObjs_get (h : Heap) (b : Addr) : (noObjs h).get? b = none := by
  cases e : (noObjs h).get? b with
  | none => rfl
  | some o => exact absurd (Heap.lt_size e) (Nat.not_lt_zero _)
def ledger (h : Heap) (L d : Addr) : List (Addr × Obj) := (List.range h.objs.size).filterMap fun a => if a = L ∨ a = d then none else (h.get? a).map fun o => (a, o)
theorem mem_ledger {h : Heap} {L d a : Addr} {o : Obj} : (a, o) ∈ ledger h L d ↔ a ≠ L ∧ a ≠ d ∧ h.get? a = some o := by
  unfold ledger
  rw [List.mem_filterMap]
  constructor
  · rintro ⟨b, _, e⟩
    split at e
    · cases e
    · rename_i hb
      obtain ⟨o', ho, e'⟩ := Option.map_eq_some_iff.mp e
      cases e'
      exact ⟨fun q => hb (.inl q), fun q => hb (.inr q), ho⟩
  · rintro ⟨n1, n2, ho⟩
    refine ⟨a, List.mem_range.mpr (Heap.lt_size ho), ?_⟩
    rw [if_neg (show ¬ (a = L ∨ a = d) from fun q => q.elim n1 n2), ho] <;> rfl
theorem news_ledger {h : Heap} {L d : Addr} {od : Obj} (hne : d ≠ L) (ho : h.get? d = some od) : News (noObjs h) L h ([] ++ (d, od) :: ledger h L d) := by
  rintro ⟨a, o⟩ hp
  rcases List.mem_cons.mp hp with e | hp
  · cases e
    exact ⟨ho, hne, noObjs_get _ _⟩
  · obtain ⟨n1, n2, e⟩ := mem_ledger.mp hp
    exact ⟨e, n1, noObjs_get _ _⟩
theorem fr_all {h : Heap} {L : Addr} {m : Str → Option Value} (n : h.Ns L m) : Fr (noObjs h) L h m :=
  ⟨n, fun b o e => (by rw [noObjs_get] at e; cases e), Nat.zero_le _⟩
/-- Upd of the head entry (for append_K, setItem_K ..) -/
theorem upd_ledger {h : Heap} {L d : Addr} {o o' : Obj} : Upd d o o' ((d, o) :: ledger h L d) ((d, o') :: ledger h L d) :=
  .head fun ⟨_, _⟩ hp => (mem_ledger.mp hp).2.1

/-- x.name = v over any heap: L is any namespace of the heap (the frame's, say): its map stays, its object is not told; all else but the dict stays -/
theorem set_field {x C dx L : Addr} {ox : Obj} {m : Str → Option Value} {es es' : List DictEntry} {n n' : Nat} {name : Str} {v : Value} {Q : Unit → Shared → Prop}
    (X : K.In s.heap) (I : PySem.W.InstAt s.heap x ox C (some (dictOf es n))) (hd : ox.dict = some dx) (hL : s.heap.Ns L m) (hne : dx ≠ L)
    (hs : findIn K (.ref C) "__setattr__" = some (some (.builtin "object.__setattr__"))) (hp : plainOver K C = true) (ht : takerIn K C name = some none) (hh : hasDictIn K C = true) (hl : (getL name es).isSome = true)
    (e : (putL name (PyData.keyHash w.params name) (.str name (s.toks + 1)) v es, putN name es n) = (es', n')) (hz : es'.length ≤ 1000)
    (h : ∀ h' : Heap, h'.Ns L m → h'.get? dx = some (dictOf es' n') → (∀ b o, b ≠ dx → b ≠ L → s.heap.get? b = some o → h'.get? b = some o) → Q () { s with heap := h', toks := s.toks + 2 }) :
    wpAny (model prog w) A (setAttr (.ref x) name v) Q E s := by
  obtain ⟨e1, e2⟩ := Prod.mk.inj e
  have hdx : s.heap.get? dx = some (dictOf es n) := by
    have := I.dict
    rw [hd] at this
    exact this
  refine set_plain X I hs (osa_dict (s := { s with toks := s.toks + 1 }) (h₀ := noObjs s.heap) (L := L) (m := m) (od := dictOf es n) (od' := dictOf es' n') (es := es') (n := n') (pre := []) (post := ledger s.heap L dx)
    (fr_all hL) (news_ledger hne hdx) X I hd hp ht hh hl (fun _ q => nomatch q) (fun ⟨_, _⟩ q => (mem_ledger.mp q).2.1) (by rw [putName_dict, e1, e2]) rfl hz fun h' F' N' => ?_)
  exact h h' F'.ns (N'.get (List.Mem.head _)) fun b o n1 n2 ho => N'.get (List.Mem.tail _ (mem_ledger.mpr ⟨n2, n1, ho⟩))
end
end Att

namespace L2
open PySem PySem.Spec PyProof.Rows

theorem vals_ints : ∀ {vs : List Value} {ns : List Int}, IntsAre vs ns → Vals (ns.map V.int) vs
  | _, _, .nil => .nil
  | _, _, .cons n t h => .cons ⟨t, rfl⟩ (vals_ints h)

/-- nothing is tracked but the script, known to the object (or it is an object of the module) -/
def Only (H : Hp) : Prop := ∀ b, H b = none ∨ ∃ o xs, H b = some (.frz o (.lst xs))

/-- THE HEAD: the law's promise, at the heap behind the top. F, the promise of the law's def, may use that base is part of the heap (so K.In base, base.Ns mainGlobals mg stand in Mod) -/
theorem law_call {P : Program} {w : World} {K : PySem.W.Frag} {mg mb : Str → Option Value} {CX : CXT} {k : Nat} {fa a : Addr} {fd : FuncData} {x : Str} {sp : Sp} {s₁ : Shared} {vs : List Value} {ns : List Int}
    (KX : K.In s₁.heap) (hns : s₁.heap.Ns mainGlobals mg) (hb : s₁.heap.Ns builtinsNs mb) (hbb : ∀ x : Str, x ≠ "__name__" → mb x = bootBuiltins x) (hlim : s₁.heap.NoLimit) (hg : s₁.gens = #[])
    (ha : s₁.heap.get? a = some { cls := .type "list", data := .seq vs.toArray }) (hi : IntsAre vs ns) (hl : ns.length ≤ sizeLine) (hr : Room k callerA)
    (F : ∀ base : Heap, K.In base → base.Ns mainGlobals mg → FnOk P w K mg base CX k fa fd [x] sp) (hbind : ∀ (s : Shared) (u : Value), BindsTo s fd ⟨[u], []⟩ [(x, u)])
    (hsp : ∀ H : Hp, Only H → SqL K H a (ns.map V.int) → sp [.ref a] H (fun v _ => v = .bl true) fun _ _ _ => False)
    (hCX : ∀ H e s', CX [] H s₁ (fun _ _ _ => False) e s' → False) :
    codeAny (model P w) callerA (.call (.ref fa) ⟨[.ref a], []⟩) (fun r s' => r = .ok (.ret (.bool true)) ∧ OldK s₁.heap s'.heap ∧ s'.os = s₁.os ∧ AllBare s'.gens) s₁ := by
  have rv := vals_ints hi
  have lenV := hi.length
  -- from an abstract heap in which nothing but the script may be tracked
  have core : ∀ H : Hp, Only H → SqL K H a (ns.map V.int) → HOk P w H s₁.heap → (∀ b, H b ≠ none → b = a) → (H a ≠ none → K.lookup a = none) →
      codeAny (model P w) callerA (.call (.ref fa) ⟨[.ref a], []⟩) (fun r s' => r = .ok (.ret (.bool true)) ∧ OldK s₁.heap s'.heap ∧ s'.os = s₁.os ∧ AllBare s'.gens) s₁ := by
    intro H hO hS hok hA hK
    have base_of : ∀ {b : Addr} {o : Obj}, s₁.heap.get? b = some o → H b = none → (hidT s₁.heap H).get? b = some o := fun e n => hidT_get e n
    have noA : ∀ {b : Addr} {o : Obj} {es : Array DictEntry} {ep : Nat}, s₁.heap.get? b = some o → o.data = .dict es ep → H b = none := fun {b o es ep} e d => by
      cases q : H b with
      | none => rfl
      | some u =>
        have e' : b = a := hA b (by rw [q]; simp)
        subst e'
        rw [ha] at e; cases e
        have d' : Data.seq vs.toArray _ = Data.dict es ep := d
        cases d'
    have nsK : ∀ {b : Addr} {m : Str → Option Value}, s₁.heap.Ns b m → (hidT s₁.heap H).Ns b m := fun {b m} ⟨o, es, ep, e, d, r⟩ => ⟨o, es, ep, base_of e (noA e d), d, r⟩
    have hKb : K.In (hidT s₁.heap H) := fun b o e => base_of (KX b o e) (by
      cases q : H b with
      | none => rfl
      | some u =>
        have e' : b = a := hA b (by rw [q]; simp)
        subst e'
        rw [hK (by rw [q]; simp)] at e; cases e)
    have hM : Mod K mg (hidT s₁.heap H) := ⟨hKb, nsK hns, ⟨mb, nsK hb, hbb⟩, let ⟨mc, h1, h2⟩ := hlim; ⟨mc, nsK h1, h2⟩⟩
    have e0 : Env0 P w K mg (hidT s₁.heap H) callerA [] s₁ H := ⟨rfl, hM, fun b o e => of_hidT e, Nat.le_of_eq (hidT_size _ _), trivial, fun b hb => absurd (show b ∈ ([] : List Addr) from hb) (by simp), hok, .of_eq hg⟩
    refine codeAny_mono ((F _ hKb (nsK hns)).run callerA [] s₁ H ⟨[.ref a], []⟩ [.ref a] [.ref a] _ _ hr e0 (hbind s₁ (.ref a)) (.cons rfl .nil) (hsp H hO hS)) fun r s' h => ?_
    cases r with
    | error e => exact (hCX H e s' h).elim
    | ok fl =>
      cases fl with
      | next => exact False.elim h
      | brk => exact False.elim h
      | cont => exact False.elim h
      | ret u =>
        obtain ⟨v, H', os, bare, un, hok', r', q⟩ := h
        have q' : v = .bl true := q
        subst q'
        obtain rfl : u = Value.bool true := r'
        refine ⟨rfl, OldK.of_keep fun b o e => ?_, os, bare⟩
        cases q : H b with
        | none => exact un.keep b o e q (by intro z; exact absurd (show b ∈ ([] : List Addr) from z) (by simp)) (by simp)
        | some u =>
          rcases hO b with z | ⟨ob, xs, z⟩
          · rw [q] at z; cases z
          · have z2 := un.frzs b ob _ z
            obtain ⟨e1, _⟩ := hok b _ z
            obtain ⟨e2, _⟩ := hok' b _ z2
            rw [e] at e1; cases e1
            exact e2
  cases hk : K.lookup a with
  | some o =>
    -- the script is one of the module's own objects
    have e := KX a o hk
    rw [ha] at e
    cases e
    refine core (fun _ => none) (fun _ => .inl rfl) (.inr ⟨_, vs.toArray, _, hk, rfl, rfl, rfl, by rw [List.size_toArray, lenV]; exact hl, by simpa using rv⟩) (fun b u z => by have z' : (none : Option HO) = some u := z; cases z') (fun b z => absurd rfl z) fun z => absurd rfl z
  | none =>
    refine core (fun b => if b = a then some (.frz { cls := .type "list", data := .seq vs.toArray } (.lst (ns.map V.int))) else none) (fun b => ?_) (.inl (.inr ⟨{ cls := .type "list", data := .seq vs.toArray }, if_pos rfl⟩)) (fun b u z => ?_) (fun b z => ?_) fun _ => hk
    · by_cases hb : b = a
      · exact .inr ⟨_, _, if_pos hb⟩
      · exact .inl (if_neg hb)
    · by_cases hb : b = a
      · have z' := (if_pos hb).symm.trans z
        cases z'
        subst hb
        exact ⟨ha, by rw [List.length_map]; exact hl, vs, _, rv, ha⟩
      · have z' := (if_neg hb).symm.trans z
        cases z'
    · by_cases hb : b = a
      · exact hb
      · exact absurd (if_neg hb) z
end L2

namespace L2
open PySem PySem.Spec PyProof.Rows

abbrev KOf {K : PySem.W.Frag} {h : Heap} (_ : K.In h) : PySem.W.Frag := K

/-- the goal that k_head leaves (case hc), from the law's promise. F gives the function object fd (K's own) once, then the promise over every base -/
theorem walk_of {l : PySem.W.OpenLaw} {n k : Nat} {q : Program} {loose : List Str} {XP : (Str → Option Value) → Heap → Prop} {YP : World → Heap → Prop} {d : DefRec} {K : Params → PySem.W.Frag} {CX : World → CXT} {sp : World → Sp} {x : Str}
    (hn : l.most = some n) (hn2 : n ≤ sizeLine) (hdf : d.params.defaults = []) (hr : Room k callerA)
    (hY : ∀ (w : World) (h : Heap), YP w h → (K w.params).In h)
    (F : ∀ (w : World) (mg : Str → Option Value) (fa : Addr) (h : Heap), (K w.params).In h → h.Ns mainGlobals mg → mg d.name = some (.ref fa) →
      ∃ fd : FuncData, (∀ (s : Shared) (u : Value), BindsTo s fd ⟨[u], []⟩ [(x, u)]) ∧
        ∀ base : Heap, (K w.params).In base → base.Ns mainGlobals mg → FnOk l.prog w (K w.params) mg base (CX w) k fa fd [x] (sp w))
    (hsp : ∀ (w : World) (H : Hp) (a : Addr) (ns : List Int), ns.length ≤ n → Only H → SqL (K w.params) H a (ns.map V.int) → sp w [.ref a] H (fun v _ => v = .bl true) fun _ _ _ => False)
    (hCX : ∀ (w : World) (H : Hp) (s : Shared) (e : Value) (s' : Shared), CX w [] H s (fun _ _ _ => False) e s' → False) :
    PySem.W.WalkO q loose XP YP l.row.toRowW d [] (fun f vs => PySem.call f vs) := by
  refine Att.attach_call hn hdf fun w s₀ s₁ mg mb fa o pm cd doc a vs ns G Y ho hd hcd hmg hobj hints hlen hg => ?_
  have KX := hY w _ Y
  obtain ⟨fd, hb, hF⟩ := F w mg fa _ KX G.T.g hmg
  exact law_call KX G.T.g G.T.b G.T.builtins G.T.nolimit hg hobj hints (Nat.le_trans hlen hn2) hr hF hb (fun H hO hS => hsp w H a ns hlen hO hS) fun H e s' => hCX w H s₁ e s'
/-- the same where the promise hangs on the written part alone: (sp := My.sp_law), no hole under a binder -/
theorem walk_ofK {l : PySem.W.OpenLaw} {n k : Nat} {q : Program} {loose : List Str} {XP : (Str → Option Value) → Heap → Prop} {YP : World → Heap → Prop} {d : DefRec} {K : Params → PySem.W.Frag} {CX : CXT} {sp : PySem.W.Frag → Sp} {x : Str}
    (hn : l.most = some n) (hn2 : n ≤ sizeLine) (hdf : d.params.defaults = []) (hr : Room k callerA)
    (hY : ∀ (w : World) (h : Heap), YP w h → (K w.params).In h)
    (F : ∀ (w : World) (mg : Str → Option Value) (fa : Addr) (h : Heap), (K w.params).In h → h.Ns mainGlobals mg → mg d.name = some (.ref fa) →
      ∃ fd : FuncData, (∀ (s : Shared) (u : Value), BindsTo s fd ⟨[u], []⟩ [(x, u)]) ∧
        ∀ base : Heap, (K w.params).In base → base.Ns mainGlobals mg → FnOk l.prog w (K w.params) mg base CX k fa fd [x] (sp (K w.params)))
    (hsp : ∀ (K : PySem.W.Frag) (H : Hp) (a : Addr) (ns : List Int), ns.length ≤ n → Only H → SqL K H a (ns.map V.int) → sp K [.ref a] H (fun v _ => v = .bl true) fun _ _ _ => False)
    (hCX : ∀ (H : Hp) (s : Shared) (e : Value) (s' : Shared), CX [] H s (fun _ _ _ => False) e s' → False) :
    PySem.W.WalkO q loose XP YP l.row.toRowW d [] (fun f vs => PySem.call f vs) :=
  walk_of (K := K) (CX := fun _ => CX) (sp := fun w => sp (K w.params)) hn hn2 hdf hr hY F (fun w H a ns h1 h2 h3 => hsp (K w.params) H a ns h1 h2 h3) fun _ H s e s' => hCX H s e s'
end L2

/- THE LAST THEOREM (shape; LID, My.* are yours):
   My.Adr: a structure of the addresses that your layer names (classes, functions); My.Txt K t: a structure (Prop) of the equations over K;
   My.txt_mk : {K} {implicit addresses ..} (e1 : nsIn K mainGlobals "law" = some (some (.ref f))) (e2 : K.lookup f = some ⟨oc, od, .func (fnOf "law" "law" params body scope dV kV doc pm an cdv ct), sl⟩) (e3 : codeIn K cdv "law" = true) .. : ∃ t, My.Txt K t

set_option maxRecDepth 100000 in
set_option maxHeartbeats 0 in
theorem PySem.Challenge.cw_LID_holds : PySem.Challenge.rw_LID.Holds := by
  w_on; o_law; k_head; (case hw => w_witness2)
  k_fill
  refine L2.walk_of (l := PySem.Challenge.rw_LID) (n := 63) (k := 40) (x := "script") (CX := fun w => ..) (sp := fun _ => My.sp_law) rfl (by decide) rfl ⟨rfl, by decide, by decide⟩ (fun w h Y => PySem.W.kIn_of Y) ?F ?S ?C
  case F =>
    intro w mg fa h KX G hmg
    have T : ∃ t, My.Txt (L2.KOf KX) t := by
      dsimp only [L2.KOf]                          -- K must stand as «<heap const> w.params» for k_is
      refine' My.txt_mk ?e1 ?e2 ?e3 ..
      (case e1 => PySem.W.k_is)                    -- in the order: a name -> its address -> its object -> its parts
      (case e2 => PySem.W.k_is)
      ..
    obtain ⟨t, T⟩ := T
    have e0 := hmg.symm.trans (PySem.W.mg_of KX G T.law)
    cases e0                                       -- fa is the law's own address
    exact ⟨_, fun s u => .of_eq rfl, fun base kb nb => My.law_fn T kb nb⟩     -- if «.of_eq rfl» comes too early: refine' ⟨_, ?b, fun base kb nb => My.law_fn T kb nb⟩; exact fun s u => .of_eq rfl
  case S => exact fun w H a ns hl hO hS => ..
  case C => exact ..
(the tactic k_is has no namespace: write k_is) -/

/-! SHORT WORDS over the layer: a def of the text, its body, what a loop and a test want. -/
namespace L2
open PySem PySem.Spec PyProof.Rows

/-! ### the text by places -/
/-- the j-th statement of a class's body -/
def inClass (s : Stmt) (j : Nat) : Stmt := match s with
  | .ClassDef _ _ _ body _ _ _ _ _ _ _ => body.getD j (.Pass ⟨0, 0, 0, 0⟩)
  | _ => .Pass ⟨0, 0, 0, 0⟩
def defArgs (s : Stmt) : Arguments := match s with
  | .FunctionDef _ a _ _ _ _ _ _ _ _ => a
  | _ => { posonlyargs := [], args := [], vararg := none, kwonlyargs := [], kw_defaults := [], kwarg := none, defaults := [] }
def defBody (s : Stmt) : List Stmt := match s with
  | .FunctionDef _ _ b _ _ _ _ _ _ _ => b
  | _ => []
def defScope (s : Stmt) : Scope := match s with
  | .FunctionDef _ _ _ _ _ _ sc _ _ _ => sc
  | _ => { kind := .function, names := [], isGenerator := false, isCoroutine := false }

/-! ### no exception leaves a def -/
abbrev CX0 : CXT := fun _ _ _ _ _ _ => False
abbrev E0 : XK := fun _ _ _ => False
theorem pass0 {X : Cx} : Passes CX0 X E0 := fun _ _ _ _ _ _ _ h => h.elim

/-! ### a def (or method) of the text as it stands behind the top -/
structure Fun (K : PySem.W.Frag) (x qual : Str) (st : Stmt) (f : Addr) (fd : FuncData) : Prop where
  ex : ∃ (oc : Value) (od : Option Addr) (kV doc pm : Value) (an : Option Addr) (cdv ct : Value) (osl : Array (Option Value)),
    fd = PySem.W.fnOf x qual (defArgs st) (defBody st) (defScope st) .none kV doc pm an cdv ct ∧ K.lookup f = some ⟨oc, od, .func fd, osl⟩ ∧ PySem.W.codeIn K cdv qual = true
  kp : PySem.W.keepIn K (.ref f) = true
section
variable {P : Program} {w : World} {K : PySem.W.Frag} {mg : Str → Option Value} {base : Heap}
/-- THE RULE for a def: its body as a term of rules, and the reading of that term -/
theorem Fun.ok {x qual : Str} {st : Stmt} {f : Addr} {fd : FuncData} {N ps : List Str} {k : Nat} {sp : Sp} (F : Fun K x qual st f fd) (S : FnScope N ps (defScope st)) (len : ∀ vs H Q E, sp vs H Q E → vs.length = ps.length)
    (hbody : ∀ (cdv : Value) (A : Around) (outer : List Env) (s : Shared) (H : Hp) (vs : List V) (Q : VK) (E : XK), Room k (A.deeper (envOfC qual (defScope st) s.heap.objs.size f cdv)) → sp vs H Q E →
      ∃ t, PSs (cxOf CX0 P w K mg base N qual (defScope st) f cdv A outer s H E).nox (defBody st) t ∧ t { nx := fun _ H' => Q .non H', rt := Q } (start N vs) H) : FnOk P w K mg base CX0 (k + 1) f fd ps sp := by
  obtain ⟨oc, od, kV, doc, pm, an, cdv, ct, osl, rfl, lk, hcd⟩ := F.ex
  refine fn_of lk hcd S len fun A outer s H vs Q E hr hsp => ?_
  obtain ⟨t, h, q⟩ := hbody cdv A outer s H vs Q E hr hsp
  exact ⟨t, h.nox, q⟩
/-- how its arguments bind (no defaults): h is «fun _ _ _ _ _ _ us hl => match us, hl with | [_, _], _ => rfl», one _ a parameter -/
theorem Fun.binds {x qual : Str} {st : Stmt} {f : Addr} {fd : FuncData} {ps : List Str} (F : Fun K x qual st f fd)
    (h : ∀ (kV doc pm : Value) (an : Option Addr) (cdv ct : Value) (us : List Value), us.length = ps.length → bindArgs (PySem.W.fnOf x qual (defArgs st) (defBody st) (defScope st) .none kV doc pm an cdv ct) ⟨us, []⟩ = pure (ps.zip us)) : Binds K fd ps [] := by
  obtain ⟨oc, od, kV, doc, pm, an, cdv, ct, osl, rfl, lk, hcd⟩ := F.ex
  exact .all (h kV doc pm an cdv ct)
theorem fun_mk {x qual : Str} {st : Stmt} {f : Addr} {oc : Value} {od an : Option Addr} {osl : Array (Option Value)} {kV doc pm cdv ct : Value} (l : K.lookup f = some ⟨oc, od, .func (PySem.W.fnOf x qual (defArgs st) (defBody st) (defScope st) .none kV doc pm an cdv ct), osl⟩)
    (c : PySem.W.codeIn K cdv qual = true) (k : PySem.W.keepIn K (.ref f) = true) : Fun K x qual st f (PySem.W.fnOf x qual (defArgs st) (defBody st) (defScope st) .none kV doc pm an cdv ct) := ⟨⟨oc, od, kV, doc, pm, an, cdv, ct, osl, rfl, l, c⟩, k⟩
end
theorem hu_of {A : Around} {k : Nat} (hr : Room k A) : A.units + 1 < cLine := Nat.lt_of_le_of_lt (Nat.add_le_add_left (by decide : 1 ≤ 64) _) hr.units
theorem small1000 {n : Nat} (h : n ≤ 1000) : n < sizeLine := Nat.lt_of_le_of_lt h (by decide)

/-! ### expressions in short: the name that stands in the i-th slot -/
section
variable {X : Cx}
theorem pv (i : Nat) {x : Str} {pos : Pos} (hN : X.N[i]? = some x := by rfl) (hv : Vis X.env.scope x := by first | exact Or.inl rfl | exact Or.inr (Or.inl rfl) | exact Or.inr (Or.inr rfl)) (hd : (x == ("__debug__" : Str)) = false := by decide)
    (hcd : (x == ("__classdict__" : Str)) = false := by decide) : PE X (.Name x pos) (tVar i) := pe_var hN hv hd hcd
end

/-! ### tests -/
theorem iteF {A B : Prop} (h : B) : if false = true then A else B := by
  rw [if_neg Bool.false_ne_true]
  exact h
theorem iteT {A B : Prop} (h : A) : if true = true then A else B := by
  rw [if_pos rfl]
  exact h
theorem ite2 {c A B : Prop} [Decidable c] (h1 : c → A) (h2 : ¬ c → B) : if c then A else B := by
  by_cases h : c
  · rw [if_pos h]
    exact h1 h
  · rw [if_neg h]
    exact h2 h
theorem iteNS {c A B : Prop} [Decidable c] (hc : c) (h : B) : if (!decide c) = true then A else B := by
  rw [decide_eq_true hc]
  exact iteF h

/-! ### heaps -/
/-- all that was tracked is as it was -/
def Same (H H' : Hp) : Prop := ∀ b o, H b = some o → H' b = some o
theorem Same.refl (H : Hp) : Same H H := fun _ _ h => h
theorem Same.trans {H H1 H2 : Hp} (a : Same H H1) (b : Same H1 H2) : Same H H2 := fun c o h => b c o (a c o h)
theorem Same.free {H H' : Hp} (e : Same H H') {l : Addr} (h : H' l = Option.none) : H l = Option.none := by
  cases q : H l with
  | none => rfl
  | some o =>
    rw [e l o q] at h
    cases h
theorem Same.seq {K : PySem.W.Frag} {H H' : Hp} {a : Addr} {xs : List V} (e : Same H H') (h : SqL K H a xs) : SqL K H' a xs := by
  rcases h with (h | ⟨o, h⟩) | h
  · exact .inl (.inl (e _ _ h))
  · exact .inl (.inr ⟨o, e _ _ h⟩)
  · exact .inr h

end L2
set_option Elab.async false
set_option linter.all false
set_option maxRecDepth 100000
namespace L2
open PySem PySem.Spec PyProof.Rows
/-! ### lists of pairs as tables -/
section
variable {κ : Type} [DecidableEq κ]
def valV (kvs : List (κ × V)) (k : κ) : Option V := (kvs.find? fun kv => decide (kv.1 = k)).map (·.2)
/-- in its place, or at the end -/
def putK (kvs : List (κ × V)) (k : κ) (v : V) : List (κ × V) :=
  if (kvs.any fun kv => decide (kv.1 = k)) = true then kvs.map (fun kv => if kv.1 = k then (kv.1, v) else kv) else kvs ++ [(k, v)]
def dropK (kvs : List (κ × V)) (k : κ) : List (κ × V) := kvs.filter fun kv => decide (kv.1 ≠ k)

theorem valV_nil {k : κ} : valV ([] : List (κ × V)) k = none := rfl
theorem valV_pos {p : κ × V} {r : List (κ × V)} {k : κ} (e : p.1 = k) : valV (p :: r) k = some p.2 := by simp [valV, List.find?_cons, e]
theorem valV_neg {p : κ × V} {r : List (κ × V)} {k : κ} (e : ¬ p.1 = k) : valV (p :: r) k = valV r k := by simp [valV, List.find?_cons, e]
theorem valV_any (k : κ) : ∀ kvs : List (κ × V), (kvs.any fun kv => decide (kv.1 = k)) = (valV kvs k).isSome
  | [] => rfl
  | p :: r => by
    rw [List.any_cons]
    by_cases e : p.1 = k
    · simp only [valV_pos e, decide_eq_true e, Bool.true_or, Option.isSome_some]
    · rw [valV_neg e, decide_eq_false e, Bool.false_or]; exact valV_any k r
theorem valV_map (k j : κ) (y : V) : ∀ kvs : List (κ × V), valV (kvs.map fun kv => if kv.1 = k then (kv.1, y) else kv) j = (valV kvs j).map fun x => if j = k then y else x
  | [] => rfl
  | p :: r => by
    have ih := valV_map k j y r
    rw [List.map_cons]
    by_cases h : p.1 = k
    · rw [if_pos h]
      by_cases e : p.1 = j
      · rw [valV_pos (p := (p.1, y)) e, valV_pos e, Option.map_some, if_pos (e.symm.trans h)]
      · rw [valV_neg (p := (p.1, y)) e, valV_neg e, ih]
    · rw [if_neg h]
      by_cases e : p.1 = j
      · rw [valV_pos (p := p) e, valV_pos e, Option.map_some, if_neg (fun z => h (e.trans z))]
      · rw [valV_neg (p := p) e, valV_neg e, ih]
theorem valV_snoc (k j : κ) (y : V) : ∀ kvs : List (κ × V), valV kvs k = none → valV (kvs ++ [(k, y)]) j = if j = k then some y else valV kvs j
  | [], _ => by
    by_cases e : k = j
    · rw [if_pos e.symm]; exact valV_pos (p := (k, y)) e
    · rw [if_neg (fun z => e z.symm)]; exact valV_neg (p := (k, y)) e
  | p :: r, hn => by
    rw [List.cons_append]
    have hk : ¬ p.1 = k := fun z => by rw [valV_pos z] at hn; cases hn
    rw [valV_neg hk] at hn
    have ih := valV_snoc k j y r hn
    by_cases e : p.1 = j
    · rw [valV_pos e, valV_pos e, if_neg (fun z => hk (e.trans z))]
    · rw [valV_neg e, valV_neg e, ih]
theorem valV_put (kvs : List (κ × V)) (k j : κ) (y : V) : valV (putK kvs k y) j = if j = k then some y else valV kvs j := by
  unfold putK
  by_cases a : (kvs.any fun kv => decide (kv.1 = k)) = true
  · rw [if_pos a, valV_map]
    rw [valV_any] at a
    by_cases e : j = k
    · obtain ⟨x, hx⟩ := Option.isSome_iff_exists.mp a
      rw [if_pos e, e, hx, Option.map_some, if_pos rfl]
    · rw [if_neg e]
      cases valV kvs j with
      | none => rfl
      | some x => rw [Option.map_some, if_neg e]
  · rw [if_neg a]
    refine valV_snoc k j y kvs ?_
    rw [valV_any] at a
    cases q : valV kvs k with
    | none => rfl
    | some x => rw [q] at a; exact (a rfl).elim
theorem length_putK (kvs : List (κ × V)) (k : κ) (v : V) : (putK kvs k v).length ≤ kvs.length + 1 := by
  unfold putK
  split
  · rw [List.length_map]; omega
  · rw [List.length_append, List.length_cons, List.length_nil]; omega
theorem putK_new {kvs : List (κ × V)} {k : κ} (v : V) (h : valV kvs k = none) : putK kvs k v = kvs ++ [(k, v)] := by
  unfold putK
  rw [valV_any, h]
  exact if_neg (by decide)

theorem RelO.isSome_eq {o : Option V} {u : Option Value} (r : RelO o u) : o.isSome = u.isSome := by
  cases o with
  | none => cases u with
    | none => rfl
    | some _ => exact (show False from r).elim
  | some _ => cases u with
    | none => exact (show False from r).elim
    | some _ => rfl
theorem RelO.getD {o : Option V} {u : Option Value} {d : V} {d' : Value} (r : RelO o u) (rd : RelV d d') : RelV (o.getD d) (u.getD d') := by
  cases o with
  | none => cases u with
    | none => exact rd
    | some _ => exact (show False from r).elim
  | some _ => cases u with
    | none => exact (show False from r).elim
    | some _ => exact r

/-- raw tables of the same keys -/
theorem KV.val {kvs : List (κ × V)} {vs : List (κ × Value)} (r : KV kvs vs) (k : κ) : RelO (valV kvs k) (valueAt vs k) := by
  unfold KV at r
  induction r with
  | nil => exact True.intro
  | @cons p q ps qs h t ih =>
    obtain ⟨h1, h2⟩ := h
    by_cases e : p.1 = k
    · have e' : q.1 = k := h1.symm.trans e
      have b : valueAt (q :: qs) k = some q.2 := by simp [valueAt, List.find?_cons, e']
      rw [valV_pos e, b]; exact h2
    · have e' : ¬ q.1 = k := fun z => e (h1.trans z)
      have b : valueAt (q :: qs) k = valueAt qs k := by simp [valueAt, List.find?_cons, e']
      rw [valV_neg e, b]; exact ih
theorem KV.any {kvs : List (κ × V)} {vs : List (κ × Value)} (r : KV kvs vs) (k : κ) : (kvs.any fun kv => decide (kv.1 = k)) = vs.any fun kv => decide (kv.1 = k) := by
  unfold KV at r
  induction r with
  | nil => rfl
  | cons h t ih => rw [List.any_cons, List.any_cons, ih, h.1]
theorem KV.repl {kvs : List (κ × V)} {vs : List (κ × Value)} (r : KV kvs vs) (k : κ) {y : V} {u : Value} (ry : RelV y u) :
    KV (kvs.map fun kv => if kv.1 = k then (kv.1, y) else kv) (vs.map fun kv => if kv.1 = k then (kv.1, u) else kv) := by
  unfold KV at r ⊢
  induction r with
  | nil => exact .nil
  | @cons p q ps qs h t ih =>
    rw [List.map_cons, List.map_cons]
    refine .cons ?_ ih
    obtain ⟨h1, h2⟩ := h
    by_cases e : p.1 = k
    · rw [if_pos e, if_pos (h1.symm.trans e)]; exact ⟨h1, ry⟩
    · rw [if_neg e, if_neg (fun z => e (h1.trans z))]; exact ⟨h1, h2⟩
theorem KV.put {kvs : List (κ × V)} {vs : List (κ × Value)} (r : KV kvs vs) (k : κ) {y : V} {u : Value} (ry : RelV y u) : KV (putK kvs k y) (stored vs k u) := by
  unfold putK stored
  rw [r.any k]
  by_cases e : (vs.any fun kv => decide (kv.1 = k)) = true
  · rw [if_pos e, if_pos e]; exact r.repl k ry
  · rw [if_neg e, if_neg e]; exact Paired.snoc r ⟨rfl, ry⟩
theorem KV.drop {kvs : List (κ × V)} {vs : List (κ × Value)} (r : KV kvs vs) (k : κ) : KV (dropK kvs k) (without vs k) := by
  unfold KV at r ⊢
  unfold dropK without
  induction r with
  | nil => exact .nil
  | @cons p q ps qs h t ih =>
    obtain ⟨h1, h2⟩ := h
    rw [List.filter_cons, List.filter_cons]
    by_cases e : p.1 = k
    · have a : ¬ decide (p.1 ≠ k) = true := by simp [e]
      have b : ¬ decide (q.1 ≠ k) = true := by simp [h1.symm.trans e]
      rw [if_neg a, if_neg b]; exact ih
    · have e' : ¬ q.1 = k := fun z => e (h1.trans z)
      have a : decide (p.1 ≠ k) = true := by simp [e]
      have b : decide (q.1 ≠ k) = true := by simp [e']
      rw [if_pos a, if_pos b]; exact .cons ⟨h1, h2⟩ ih
theorem KV.keys {kvs : List (κ × V)} {vs : List (κ × Value)} (r : KV kvs vs) : kvs.map (·.1) = vs.map (·.1) := by
  unfold KV at r
  induction r with
  | nil => rfl
  | cons h t ih => rw [List.map_cons, List.map_cons, ih, h.1]
theorem KV.length {kvs : List (κ × V)} {vs : List (κ × Value)} (r : KV kvs vs) : kvs.length = vs.length := Paired.length r
theorem dropK_le (kvs : List (κ × V)) (k : κ) : (dropK kvs k).length ≤ kvs.length := List.length_filter_le _ _
end


/-! ### a tracked dict, its keys ints and texts or tuples of these -/
theorem kV_is {P : Program} {w : World} {k : Key} {u : Value} (r : RelV (kV k) u) : (mixKind P w).is k u = true := by
  cases k with
  | inl i => obtain ⟨t, e⟩ := (show ∃ t, u = Value.int i t from r); subst e; exact mixKind_int P w i t
  | inr x => obtain ⟨t, e⟩ := (show ∃ t, u = Value.str x t from r); subst e; exact mixKind_str P w x t
theorem kV_inj {a b : Key} (e : kV a = kV b) : a = b := by
  cases a with
  | inl i => cases b with
    | inl j => have e' : V.int i = V.int j := e; injection e' with e'; rw [e']
    | inr y => exact nomatch (show V.int i = V.str y from e)
  | inr x => cases b with
    | inl j => exact nomatch (show V.str x = V.int j from e)
    | inr y => have e' : V.str x = V.str y := e; injection e' with e'; rw [e']
theorem kVs_inj : ∀ {a b : List Key}, a.map kV = b.map kV → a = b
  | [], [], _ => rfl
  | [], _ :: _, e => by simp at e
  | _ :: _, [], e => by simp at e
  | x :: xs, y :: ys, e => by
    rw [List.map_cons, List.map_cons] at e
    injection e with e1 e2
    rw [kV_inj e1, kVs_inj e2]
theorem items_are {P : Program} {w : World} : ∀ {ks : List Key} {us : List Value}, Vals (ks.map kV) us → ItemsAre (mixKind P w) ks us
  | [], _, r => by rw [List.map_nil] at r; cases r; exact .nil
  | k :: ks, _, r => by
    rw [List.map_cons] at r
    cases r with
    | cons h t => exact .cons (kV_is h) (items_are t)

/-- raw entries of a dict with tuple keys -/
abbrev KT (H : Hp) : List (List Key × V) → List (List Key × Addr × Value) → Prop := Paired fun p q => p.1 = q.1 ∧ H q.2.1 = some (.tup (p.1.map kV)) ∧ RelV p.2 q.2.2
theorem KT.val {H : Hp} {kvs : List (List Key × V)} {xs : List (List Key × Addr × Value)} (r : KT H kvs xs) (k : List Key) : RelO (valV kvs k) ((atKey xs k).map (·.2)) := by
  induction r with
  | nil => exact True.intro
  | @cons p q ps qs h t ih =>
    obtain ⟨h1, _, h2⟩ := h
    by_cases e : p.1 = k
    · have e' : q.1 = k := h1.symm.trans e
      have b : atKey (q :: qs) k = some q.2 := by simp [atKey, List.find?_cons, e']
      rw [valV_pos e, b]; exact h2
    · have e' : ¬ q.1 = k := fun z => e (h1.trans z)
      have b : atKey (q :: qs) k = atKey qs k := by simp [atKey, List.find?_cons, e']
      rw [valV_neg e, b]; exact ih
theorem KT.repl {H : Hp} {kvs : List (List Key × V)} {xs : List (List Key × Addr × Value)} (r : KT H kvs xs) (k : List Key) {y : V} {u : Value} (ry : RelV y u) :
    KT H (kvs.map fun kv => if kv.1 = k then (kv.1, y) else kv) (xs.map (putAt k u)) := by
  induction r with
  | nil => exact .nil
  | @cons p q ps qs h t ih =>
    rw [List.map_cons, List.map_cons]
    refine .cons ?_ ih
    obtain ⟨h1, h2, h3⟩ := h
    unfold putAt
    by_cases e : p.1 = k
    · rw [if_pos e, if_pos (h1.symm.trans e)]; exact ⟨h1, h2, ry⟩
    · rw [if_neg e, if_neg (fun z => e (h1.trans z))]; exact ⟨h1, h2, h3⟩
theorem KT.put {H : Hp} {kvs : List (List Key × V)} {xs : List (List Key × Addr × Value)} (r : KT H kvs xs) (k : List Key) {b : Addr} {y : V} {u : Value} (hb : H b = some (.tup (k.map kV))) (ry : RelV y u) :
    KT H (putK kvs k y) (storedH xs k b u) := by
  have e : (kvs.any fun kv => decide (kv.1 = k)) = (atKey xs k).isSome := by
    rw [valV_any, (r.val k).isSome_eq, Option.isSome_map]
  unfold putK storedH
  rw [e]
  by_cases q : (atKey xs k).isSome = true
  · rw [if_pos q, if_pos q]; exact r.repl k ry
  · rw [if_neg q, if_neg q]; exact Paired.snoc r ⟨rfl, hb, ry⟩
theorem KT.keeps {H H' : Hp} {kvs : List (List Key × V)} {xs : List (List Key × Addr × Value)} (r : KT H kvs xs) (ht : ∀ b ys, H b = some (.tup ys) → H' b = some (.tup ys)) : KT H' kvs xs :=
  Paired.mapP r fun _ _ z => ⟨z.1, ht _ _ z.2.1, z.2.2⟩

section
variable {P : Program} {w : World} {H : Hp} {h : Heap} {a : Addr}
theorem rd_of {u : HO} (ok : HOk P w H h) (e : Rd H a u) : ObjOk P w H h a u := e.ok ok
theorem dk_rd {kvs : List (Key × V)} (ok : HOk P w H h) (e : Rd H a (.dK kvs)) : kvs.length ≤ sizeLine ∧ (a == sysModules) = false ∧ ∃ vs, KV kvs vs ∧ h.DictOf (mixKind P w) a vs :=
  show ObjOk P w H h a (.dK kvs) from rd_of ok e
theorem dk_of {kvs : List (Key × V)} (ok : HOk P w H h) (e : H a = some (.dK kvs)) : kvs.length ≤ sizeLine ∧ (a == sysModules) = false ∧ ∃ vs, KV kvs vs ∧ h.DictOf (mixKind P w) a vs := dk_rd ok (.inl e)
/-- a tracked tuple of ints and texts is a key -/
theorem key_of {ks : List Key} (ok : HOk P w H h) (e : H a = some (.tup (ks.map kV))) : (tupleKind (mixKind P w)).is h ks a := by
  obtain ⟨_, its, r, o, h1, h2, n, h3⟩ := (show ObjOk P w H h a (.tup (ks.map kV)) from ok a _ e)
  exact ⟨o, its.toArray, n, h1, h2, h3, by simpa using items_are r⟩
theorem dt_rd {kvs : List (List Key × V)} (ok : HOk P w H h) (e : Rd H a (.dT kvs)) : kvs.length ≤ sizeLine ∧ (a == sysModules) = false ∧
    ∃ xs, KT H kvs xs ∧ h.DictOfH (tupleKind (mixKind P w)) a xs := by
  obtain ⟨z, y, xs, r, o, es, ep, h1, h2, h3, h4, h5⟩ := (show ObjOk P w H h a (.dT kvs) from rd_of ok e)
  refine ⟨z, y, xs, r, o, es, ep, h1, h2, h3, h4, fun x hx => ?_, h5⟩
  have all : ∀ {l : List (List Key × V)} {m : List (List Key × Addr × Value)}, KT H l m → ∀ x ∈ m, (tupleKind (mixKind P w)).is h x.1 x.2.1 := by
    intro l m q
    induction q with
    | nil => intro x hx; exact nomatch hx
    | @cons p q ps qs hq t ih =>
      intro x hx
      rcases List.mem_cons.mp hx with e | hx
      · subst e
        exact key_of ok (by rw [← hq.1]; exact hq.2.1)
      · exact ih x hx
  exact all r x hx
theorem dt_of {kvs : List (List Key × V)} (ok : HOk P w H h) (e : H a = some (.dT kvs)) : kvs.length ≤ sizeLine ∧ (a == sysModules) = false ∧
    ∃ xs, KT H kvs xs ∧ h.DictOfH (tupleKind (mixKind P w)) a xs := dt_rd ok (.inl e)
end

/-- what the dict at a holds at the key y -/
def DGet (H : Hp) (a : Addr) (y : V) (r : Option V) : Prop :=
  (∃ kvs k, Rd H a (.dK kvs) ∧ y = kV k ∧ r = valV kvs k) ∨ ∃ kvs k b, Rd H a (.dT kvs) ∧ y = .ref b ∧ H b = some (.tup (k.map kV)) ∧ r = valV kvs k
/-- the heap behind a[y] = v -/
def DPut (H : Hp) (a : Addr) (y v : V) (H' : Hp) : Prop :=
  (∃ kvs k, H a = some (.dK kvs) ∧ y = kV k ∧ kvs.length < sizeLine ∧ H' = upd H a (.dK (putK kvs k v))) ∨
  ∃ kvs k b, H a = some (.dT kvs) ∧ y = .ref b ∧ H b = some (.tup (k.map kV)) ∧ kvs.length < sizeLine ∧ H' = upd H a (.dT (putK kvs k v))
theorem DGet.k {H : Hp} {a : Addr} {kvs : List (Key × V)} {k : Key} (e : H a = some (.dK kvs)) : DGet H a (kV k) (valV kvs k) := .inl ⟨kvs, k, .inl e, rfl, rfl⟩
theorem DGet.t {H : Hp} {a b : Addr} {kvs : List (List Key × V)} {k : List Key} (e : H a = some (.dT kvs)) (eb : H b = some (.tup (k.map kV))) : DGet H a (.ref b) (valV kvs k) := .inr ⟨kvs, k, b, .inl e, rfl, eb, rfl⟩
theorem DPut.k {H : Hp} {a : Addr} {kvs : List (Key × V)} {k : Key} {v : V} (e : H a = some (.dK kvs)) (hl : kvs.length < sizeLine) : DPut H a (kV k) v (upd H a (.dK (putK kvs k v))) := .inl ⟨kvs, k, e, rfl, hl, rfl⟩
theorem DPut.t {H : Hp} {a b : Addr} {kvs : List (List Key × V)} {k : List Key} {v : V} (e : H a = some (.dT kvs)) (eb : H b = some (.tup (k.map kV))) (hl : kvs.length < sizeLine) :
    DPut H a (.ref b) v (upd H a (.dT (putK kvs k v))) := .inr ⟨kvs, k, b, e, rfl, eb, hl, rfl⟩


section
variable {X : Cx} {pins : List (Addr × Obj)} {σ : St} {H : Hp} {s : Shared} {a : Addr} {y v : V} {u r : Value} {o : Option V} {A : Around} {E : Value → Shared → Prop}

theorem Inv.big (I : Inv X pins σ H s) : sysModules < s.heap.objs.size := by
  have h : mainGlobals < s.heap.objs.size := (I.mod.glob.keeps I.bk).lt
  exact Nat.lt_trans (by decide) h

/-- d[y], there -/
theorem d_getItem {Q : Value → Shared → Prop} (hu : A.units + 1 < cLine) (I : Inv X pins σ H s) (g : DGet H a y (some v)) (ry : RelV y u) (h : ∀ w' s', Inv X pins σ H s' → RelV v w' → Q w' s') :
    wpAny (model X.prog X.w) A (getItem (.ref a) u) Q E s := by
  rcases g with ⟨kvs, k, e, ey, l⟩ | ⟨kvs, k, b, e, ey, eb, l⟩
  · subst ey
    obtain ⟨z, hd, vs, rel, dd⟩ := dk_rd I.hok e
    obtain ⟨w', hw, rw'⟩ := RelO.some_of (v := v) (o := valueAt vs k) (by rw [l]; exact rel.val k)
    exact wpAny_getItem_of (kV_is ry) dd.mapOf hw (h w' _ (I.tok _) rw')
  · subst ey
    cases (show u = Value.ref b from ry)
    obtain ⟨z, hd, xs, rel, dd⟩ := dt_rd I.hok e
    obtain ⟨w', hw, rw'⟩ := RelO.some_of (v := v) (o := (atKey xs k).map (·.2)) (by rw [l]; exact rel.val k)
    obtain ⟨p, hp, hp2⟩ := Option.map_eq_some_iff.mp hw
    refine wpAny_getItem_heap (tupleKind_room_in1 hu) (key_of I.hok eb) dd hp ?_
    rw [hp2]
    exact h w' _ (I.tok _) rw'
/-- y in d -/
theorem d_in {Q : Value → Shared → Prop} (hu : A.units + 1 < cLine) (I : Inv X pins σ H s) (g : DGet H a y o) (ry : RelV y u) (h : ∀ s', Inv X pins σ H s' → Q (.bool o.isSome) s') :
    wpAny (model X.prog X.w) A (compareOp .In u (.ref a)) Q E s := by
  rcases g with ⟨kvs, k, e, ey, l⟩ | ⟨kvs, k, b, e, ey, eb, l⟩
  · subst ey
    obtain ⟨z, hd, vs, rel, dd⟩ := dk_rd I.hok e
    refine wpAny_in_of (kV_is ry) hd dd.mapOf ?_
    rw [← (rel.val k).isSome_eq, ← l]
    exact h _ (I.tok _)
  · subst ey
    cases (show u = Value.ref b from ry)
    obtain ⟨z, hd, xs, rel, dd⟩ := dt_rd I.hok e
    refine wpAny_in_heap (tupleKind_room_in1 hu) (key_of I.hok eb) hd dd ?_
    have q := (rel.val k).isSome_eq
    rw [Option.isSome_map] at q
    rw [← q, ← l]
    exact h _ (I.tok _)
theorem d_notIn {Q : Value → Shared → Prop} (hu : A.units + 1 < cLine) (I : Inv X pins σ H s) (g : DGet H a y o) (ry : RelV y u) (h : ∀ s', Inv X pins σ H s' → Q (.bool (!o.isSome)) s') :
    wpAny (model X.prog X.w) A (compareOp .NotIn u (.ref a)) Q E s := by
  rcases g with ⟨kvs, k, e, ey, l⟩ | ⟨kvs, k, b, e, ey, eb, l⟩
  · subst ey
    obtain ⟨z, hd, vs, rel, dd⟩ := dk_rd I.hok e
    refine wpAny_notIn_of (kV_is ry) hd dd.mapOf ?_
    rw [← (rel.val k).isSome_eq, ← l]
    exact h _ (I.tok _)
  · subst ey
    cases (show u = Value.ref b from ry)
    obtain ⟨z, hd, xs, rel, dd⟩ := dt_rd I.hok e
    refine wpAny_notIn_heap (tupleKind_room_in1 hu) (key_of I.hok eb) hd dd ?_
    have q := (rel.val k).isSome_eq
    rw [Option.isSome_map] at q
    rw [← q, ← l]
    exact h _ (I.tok _)
/-- a dict's object is replaced -/
theorem d_write {h' : Heap} {t' : Nat} {ob : HO} (I : Inv X pins σ H s) (mu : Mut (H a)) (hs : Heap.SameBut a s.heap h') (he : ∃ q, h'.get? a = some q) (new : ObjOk X.prog X.w (upd H a ob) h' a ob) :
    Inv X pins σ (upd H a ob) { s with heap := h', toks := t' } :=
  I.write (x := a) (e := a) mu (.inl rfl) (fun b q hb z => (hs.2 b hb).trans z) he new
theorem dk_new {P : Program} {w : World} {H' : Hp} {h' : Heap} {kvs : List (Key × V)} {vs : List (Key × Value)} (z : kvs.length ≤ sizeLine) (hd : (a == sysModules) = false) (rel : KV kvs vs) (dd : h'.DictOf (mixKind P w) a vs) :
    ObjOk P w H' h' a (.dK kvs) := ⟨z, hd, vs, rel, dd⟩
/-- d[y] = v -/
theorem d_setItem {H' : Hp} {Q : Unit → Shared → Prop} (hu : A.units + 1 < cLine) (I : Inv X pins σ H s) (g : DPut H a y v H') (ry : RelV y u) (rv : RelV v r) (h : ∀ s', Inv X pins σ H' s' → Q () s') :
    wpAny (model X.prog X.w) A (setItem (.ref a) u r) Q E s := by
  rcases g with ⟨kvs, k, e, ey, l, eH⟩ | ⟨kvs, k, b, e, ey, eb, l, eH⟩
  · subst ey eH
    obtain ⟨z, hd, vs, rel, dd⟩ := dk_of I.hok e
    have hz : vs.length ≤ sizeLine := by rw [← rel.length]; exact z
    have hl : (putK kvs k v).length ≤ sizeLine := by have := length_putK kvs k v; omega
    refine wpAny_setItem_pairs (hsz := hz) (kV_is ry) dd fun h' dd' hs => h _ ?_
    have he : ∃ q, h'.get? a = some q := let ⟨q, _, _, hq, _⟩ := dd'; ⟨q, hq⟩
    exact d_write I (by rw [e]; exact True.intro) hs he (dk_new hl hd (rel.put k rv) dd')
  · subst ey eH
    cases (show u = Value.ref b from ry)
    obtain ⟨z, hd, xs, rel, dd⟩ := dt_of I.hok e
    have hz : xs.length ≤ sizeLine := by rw [← Paired.length rel]; exact z
    have hl : (putK kvs k v).length ≤ sizeLine := by have := length_putK kvs k v; omega
    refine wpAny_setItem_heap (hsz := hz) (tupleKind_room_in1 hu) (key_of I.hok eb) dd fun h' dd' hs => h _ ?_
    obtain ⟨q, es, ep, hq, h2, h3, h4, _, h5⟩ := dd'
    refine d_write I (by rw [e]; exact True.intro) hs ⟨q, hq⟩ ⟨hl, hd, _, (rel.put k eb rv).keeps fun c ys ec => ?_, q, es, ep, hq, h2, h3, h4, h5⟩
    rw [upd_ne (ne_of ec e (fun z => nomatch z))]
    exact ec
end

section
variable {X : Cx} {pins : List (Addr × Obj)} {σ : St} {H : Hp} {s : Shared} {a : Addr} {kvs : List (Key × V)} {k : Key} {u : Value} {A : Around} {E : Value → Shared → Prop}
/-- del d[k] -/
theorem d_delItem {Q : Unit → Shared → Prop} (I : Inv X pins σ H s) (e : H a = some (.dK kvs)) (ry : RelV (kV k) u) (l : (valV kvs k).isSome = true) (h : ∀ s', Inv X pins σ (upd H a (.dK (dropK kvs k))) s' → Q () s') :
    wpAny (model X.prog X.w) A (delItem (.ref a) u) Q E s := by
  obtain ⟨z, hd, vs, rel, dd⟩ := dk_of I.hok e
  refine wpAny_delItem_slot dd.typeIs (by decide) PySem.F.slot_dict_delitem
    (call_meetsIn PySem.F.slot_dict_delitem dd.typeIs PySem.F.entry_dict_delitem (PySem.F.args_dict_delitem_2 _ _) (meets_dict_delitem_pairs (mixKind X.prog X.w) a (kV_is ry)) ⟨vs, dd, by rw [← rel.length]; exact z, by rw [← (rel.val k).isSome_eq]; exact l, fun h' dd' hs => h _ ?_⟩)
  have he : ∃ q, h'.get? a = some q := let ⟨q, _, _, hq, _⟩ := dd'; ⟨q, hq⟩
  exact d_write I (by rw [e]; exact True.intro) hs he (dk_new (Nat.le_trans (dropK_le kvs k) z) hd (rel.drop k) dd')
/-- d.pop(k[, x]), there -/
theorem d_pop {v : V} {more : List Value} {Q : Value → Shared → Prop} (I : Inv X pins σ H s) (e : H a = some (.dK kvs)) (ry : RelV (kV k) u) (l : valV kvs k = some v) (hm : more = [] ∨ ∃ x, more = [x])
    (h : ∀ w' s', Inv X pins σ (upd H a (.dK (dropK kvs k))) s' → RelV v w' → Q w' s') : wpAny (model X.prog X.w) A (call (.builtin "dict.pop") (.ref a :: u :: more)) Q E s := by
  obtain ⟨z, hd, vs, rel, dd⟩ := dk_of I.hok e
  obtain ⟨w', hw, rw'⟩ := RelO.some_of (v := v) (o := valueAt vs k) (by rw [← l]; exact rel.val k)
  have hp : (keyPart u).isSome = true := by
    cases k with
    | inl i => obtain ⟨t, q⟩ := (show ∃ t, u = Value.int i t from ry); subst q; rfl
    | inr x => obtain ⟨t, q⟩ := (show ∃ t, u = Value.str x t from ry); subst q; rfl
  have ha : argsOk "dict.pop" ⟨.ref a :: u :: more, []⟩ := by
    rcases hm with q | ⟨x, q⟩
    · subst q; exact PySem.F.args_dict_pop_2 _ _
    · subst q; exact PySem.F.args_dict_pop_3 _ _ _
  refine call_meetsIn PySem.F.slot_dict_pop dd.typeIs PySem.F.entry_dict_pop ha (meets_dict_pop_there (mixKind X.prog X.w) a (kV_is ry) more hm hp)
    ⟨vs, w', dd, by rw [← rel.length]; exact z, hw, fun h' dd' hs => h w' _ ?_ rw'⟩
  have he : ∃ q, h'.get? a = some q := let ⟨q, _, _, hq, _⟩ := dd'; ⟨q, hq⟩
  exact d_write I (by rw [e]; exact True.intro) hs he (dk_new (Nat.le_trans (dropK_le kvs k) z) hd (rel.drop k) dd')
/-- d.pop(k, x), not there -/
theorem d_popD {r : Value} {Q : Value → Shared → Prop} (I : Inv X pins σ H s) (e : H a = some (.dK kvs)) (ry : RelV (kV k) u) (l : valV kvs k = none) (h : ∀ s', Inv X pins σ H s' → Q r s') :
    wpAny (model X.prog X.w) A (call (.builtin "dict.pop") [.ref a, u, r]) Q E s := by
  obtain ⟨z, hd, vs, rel, dd⟩ := dk_of I.hok e
  have hn : valueAt vs k = none := RelO.none_of (by rw [← l]; exact rel.val k)
  have hp : (keyPart u).isSome = true := by
    cases k with
    | inl i => obtain ⟨t, q⟩ := (show ∃ t, u = Value.int i t from ry); subst q; rfl
    | inr x => obtain ⟨t, q⟩ := (show ∃ t, u = Value.str x t from ry); subst q; rfl
  exact call_meetsIn PySem.F.slot_dict_pop dd.typeIs PySem.F.entry_dict_pop (PySem.F.args_dict_pop_3 _ _ _) (meets_dict_pop_default (mixKind X.prog X.w) a (kV_is ry) hd hp r) ⟨vs, dd, hn, h _ (I.tok _)⟩
/-- d.clear() -/
theorem d_clear {Q : Value → Shared → Prop} (I : Inv X pins σ H s) (e : H a = some (.dK kvs)) (h : ∀ s', Inv X pins σ (upd H a (.dK [])) s' → Q .none s') : wpAny (model X.prog X.w) A (call (.builtin "dict.clear") [.ref a]) Q E s := by
  obtain ⟨z, hd, vs, rel, dd⟩ := dk_of I.hok e
  refine call_meetsIn PySem.F.slot_dict_clear dd.typeIs PySem.F.entry_dict_clear (PySem.F.args_dict_clear_1 _) (meets_dict_clear (mixKind X.prog X.w) a) ⟨vs, dd, by rw [← rel.length]; exact z, fun h' dd' hs => h _ ?_⟩
  have he : ∃ q, h'.get? a = some q := let ⟨q, _, _, hq, _⟩ := dd'; ⟨q, hq⟩
  exact d_write (t' := s.toks) I (by rw [e]; exact True.intro) hs he (dk_new (Nat.zero_le _) hd .nil dd')
/-- len(d) -/
theorem d_len {Q : Value → Shared → Prop} (I : Inv X pins σ H s) (e : Rd H a (.dK kvs)) (h : ∀ t s', Inv X pins σ H s' → Q (.int kvs.length t) s') : wpAny (model X.prog X.w) A (call (.builtin "len") [.ref a]) Q E s := by
  obtain ⟨z, hd, vs, rel, dd⟩ := dk_rd I.hok e
  refine call_len_dict hd dd (by rw [← rel.length]; rw [sizeLine_eq] at z; omega) ?_
  rw [← rel.length]
  exact h _ _ (I.tok _)
/-- if d -/
theorem d_truth {Q : Bool → Shared → Prop} (I : Inv X pins σ H s) (e : Rd H a (.dK kvs)) (h : ∀ s', Inv X pins σ H s' → Q (!kvs.isEmpty) s') : wpAny (model X.prog X.w) A (truthy (.ref a)) Q E s := by
  obtain ⟨z, hd, vs, rel, dd⟩ := dk_rd I.hok e
  refine wpAny_truthy_dict hd dd (by rw [← rel.length]; rw [sizeLine_eq] at z; omega) ?_
  have q : kvs.isEmpty = vs.isEmpty := by cases rel <;> rfl
  rw [← q]
  exact h _ (I.tok _)
end


/-! ### readings and rules -/
/-- the element of a subscription, not a slice -/
def NoSl (i : Expr) : Prop := ∀ ov iv, subscripted i false ov iv = operate [ov, iv] (getItem ov iv)
theorem subD_of {prog : Program} {w : World} {A : Around} {E : Value → Shared → Prop} {s : Shared} {env : Env} {value slice : Expr} {pos : Pos} {T id : String} {Q : Value → Shared → Prop}
    (hl : typeLookup (.type T) "__getitem__" = pure (some (.builtin id))) (hs : NoSl slice)
    (h : wpAny (model prog w) A (eval value env) (fun o s₁ => wpAny (model prog w) A (eval slice env) (fun i s₂ => s₂.TypeIs o T ∧ wpAny (model prog w) A (getItem o i) Q E s₂) E s₁) E s) :
    wpAny (model prog w) A (eval (.Subscript value slice pos) env) Q E s := by
  refine Subscript_ (wpAny_mono h (fun o s₁ h₁ => wpAny_mono h₁ (fun i s₂ h₂ => ?_) fun _ _ x => x) fun _ _ x => x)
  obtain ⟨hT, h₂⟩ := h₂
  unfold subscriptTail
  refine wpAny_bind ?_
  rw [getitemInPython_of_ne hT.not_modules]
  refine wpAny_bind (wpAny_specialOf hT hl ?_)
  have fin : wpAny (model prog w) A (subscripted slice false o i) (fun r s₃ => wpAny (model prog w) A (letTemporaryGo value o r >>= fun _ => pure r) Q E s₃) E s₂ := by
    rw [hs o i]
    exact wpAny_operating (wpAny_mono h₂ (fun r s₃ h₃ => wpAny_bind (wpAny_letTemporaryGo (wpAny_pure h₃))) fun _ _ x => x)
  first
    | exact wpAny_pure (wpAny_bind fin)
    | exact wpAny_bind (wpAny_pure (wpAny_bind fin))
    | exact wpAny_bind fin

theorem dict_typeIs {X : Cx} {pins : List (Addr × Obj)} {σ : St} {H : Hp} {s : Shared} {a : Addr} {y : V} {o : Option V} (I : Inv X pins σ H s) (g : DGet H a y o) : s.TypeIs (.ref a) "dict" := by
  rcases g with ⟨kvs, k, e, _, _⟩ | ⟨kvs, k, b, e, _, _, _⟩
  · obtain ⟨_, _, vs, _, dd⟩ := dk_rd I.hok e
    exact dd.typeIs
  · obtain ⟨_, _, xs, _, dd⟩ := dt_rd I.hok e
    exact dd.typeIs
theorem dict_noDict {X : Cx} {pins : List (Addr × Obj)} {σ : St} {H : Hp} {s : Shared} {a : Addr} {y : V} {o : Option V} (I : Inv X pins σ H s) (g : DGet H a y o) :
    ∀ b, Value.ref a = .ref b → ∃ ob, s.heap.get? b = some ob ∧ ob.dict = none := fun b q => by
  cases q
  rcases g with ⟨kvs, k, e, _, _⟩ | ⟨kvs, k, b, e, _, _, _⟩
  · obtain ⟨_, _, vs, _, ob, _, _, h1, h2, _⟩ := dk_rd I.hok e
    exact ⟨ob, h1, h2.2.1⟩
  · obtain ⟨_, _, xs, _, ob, _, _, h1, h2, _⟩ := dt_rd I.hok e
    exact ⟨ob, h1, h2.2.1⟩

/-- d[y] -/
def tDGet (td ty : TE) : TE := fun σ H Q => td σ H fun x H1 => ty σ H1 fun y H2 => ∃ a v, x = .ref a ∧ DGet H2 a y (some v) ∧ Q v H2
/-- y in d, y not in d -/
def tDIn (ty td : TE) : TE := fun σ H Q => ty σ H fun y H1 => td σ H1 fun x H2 => ∃ a o, x = .ref a ∧ DGet H2 a y o ∧ Q (.bl o.isSome) H2
def tDNotIn (ty td : TE) : TE := fun σ H Q => ty σ H fun y H1 => td σ H1 fun x H2 => ∃ a o, x = .ref a ∧ DGet H2 a y o ∧ Q (.bl (!o.isSome)) H2
/-- d[y] = v -/
def sDPut (td ty tv : TE) : TS := fun D σ H => tv σ H fun v H1 => td σ H1 fun x H2 => ty σ H2 fun y H3 => ∃ a H4, x = .ref a ∧ DPut H3 a y v H4 ∧ D.nx σ H4
/-- d[y] op= v -/
def sDAug (td ty tv : TE) (rd : V → V → Hp → VK → Prop) : TS := fun D σ H => td σ H fun x H1 => ty σ H1 fun y H2 => ∃ a v, x = .ref a ∧ DGet H2 a y (some v) ∧
  tv σ H2 fun y2 H3 => rd v y2 H3 fun z H4 => ∃ H5, DPut H4 a y z H5 ∧ D.nx σ H5
/-- del d[y] -/
def sDDel (td ty : TE) : TS := fun D σ H => td σ H fun x H1 => ty σ H1 fun y H2 => ∃ a kvs k, x = .ref a ∧ H2 a = some (.dK kvs) ∧ y = kV k ∧ (valV kvs k).isSome = true ∧ D.nx σ (upd H2 a (.dK (dropK kvs k)))

section
variable {X : Cx} {o i e value : Expr} {pos pos' tpos : Pos} {td ty tv : TE}
theorem pe_dget (hu : X.A.units + 1 < cLine) (ho : PE X o td) (hi : PE X i ty) (hs : NoSl i) : PE X (.Subscript o i pos) (tDGet td ty) := by
  intro pins s σ H Q I h
  refine subD_of PySem.F.slot_dict_getitem.lookup hs (thn (ho pins s σ H _ I h) fun u s1 ⟨x, H1, I1, rx, q1⟩ => thn (hi pins s1 σ H1 _ I1 q1) fun iv s2 ⟨y, H2, I2, ry, a, v, ex, g, q2⟩ => ?_)
  subst ex
  obtain rfl : u = Value.ref a := rx
  exact ⟨dict_typeIs I2 g, d_getItem hu I2 g ry fun w' s3 I3 rw' => ⟨v, H2, I3, rw', q2⟩⟩
theorem pc_din (hu : X.A.units + 1 < cLine) (hi : PE X i ty) (ho : PE X o td) : PC X .In i o (tDIn ty td) := by
  intro pins s σ H Q I h
  refine thn (hi pins s σ H _ I h) fun iv s1 ⟨y, H1, I1, ry, q1⟩ => thn (ho pins s1 σ H1 _ I1 q1) fun u s2 ⟨x, H2, I2, rx, a, ov, ex, g, q2⟩ => ?_
  subst ex
  obtain rfl : u = Value.ref a := rx
  exact d_in hu I2 g ry fun s3 I3 => ⟨.bl ov.isSome, H2, I3, rfl, q2⟩
theorem pc_dnotin (hu : X.A.units + 1 < cLine) (hi : PE X i ty) (ho : PE X o td) : PC X .NotIn i o (tDNotIn ty td) := by
  intro pins s σ H Q I h
  refine thn (hi pins s σ H _ I h) fun iv s1 ⟨y, H1, I1, ry, q1⟩ => thn (ho pins s1 σ H1 _ I1 q1) fun u s2 ⟨x, H2, I2, rx, a, ov, ex, g, q2⟩ => ?_
  subst ex
  obtain rfl : u = Value.ref a := rx
  exact d_notIn hu I2 g ry fun s3 I3 => ⟨.bl (!ov.isSome), H2, I3, rfl, q2⟩
theorem ps_dput (hu : X.A.units + 1 < cLine) (ho : PE X o td) (hi : PE X i ty) (hv : PE X value tv) (hs : swapsWith value (some (.Subscript o i pos')) pos.line X.env = pure false) :
    PS X (.Assign [.Subscript o i pos'] value pos) (sDPut td ty tv) := by
  intro pins s σ H D I h
  refine wpAny_Assign_Subscript (thn (hv pins s σ H _ I h) fun r s1 ⟨v, H1, I1, rv, q1⟩ => thn (ho pins s1 σ H1 _ I1 q1) fun u s2 ⟨x, H2, I2, rx, q2⟩ => thn (hi pins s2 σ H2 _ I2 q2) fun iv s3 ⟨y, H3, I3, ry, a, H4, ex, g, q3⟩ => ?_) hs
  subst ex
  obtain rfl : u = Value.ref a := rx
  exact d_setItem hu I3 g ry rv fun s4 I4 => ⟨σ, H4, I4, q3⟩
theorem ps_daug {op : Operator} {rd : V → V → Hp → VK → Prop} (hu : X.A.units + 1 < cLine) (ho : PE X o td) (hi : PE X i ty) (hv : PE X value tv) (hop : InOp X op rd)
    (ha : ∀ ov iv new, augStore i ov iv new = (do holding [new, ov, iv] (setItem ov iv new); release [new, ov, iv] []; pure .next)) : PS X (.AugAssign (.Subscript o i tpos) op value pos) (sDAug td ty tv rd) := by
  intro pins s σ H D I h
  refine wpAny_AugAssign_SubscriptAny (thn (ho pins s σ H _ I h) fun u s1 ⟨x, H1, I1, rx, q1⟩ => thn (hi pins s1 σ H1 _ I1 q1) fun iv s2 ⟨y, H2, I2, ry, a, v, ex, g, q2⟩ => ?_) ha
  subst ex
  obtain rfl : u = Value.ref a := rx
  refine d_getItem hu I2 g ry fun w' s3 I3 rw' => thn (hv pins s3 σ H2 _ I3 q2) fun w2 s4 ⟨y2, H3, I4, ry2, q3⟩ => thn (hop pins s4 σ H3 v y2 w' w2 _ I4 rw' ry2 q3) fun w3 s5 ⟨z, H4, I5, rz, H5, g5, q4⟩ => ?_
  exact d_setItem hu I5 g5 ry rz fun s6 I6 => ⟨σ, H5, I6, q4⟩
theorem ps_ddel (ho : PE X o td) (hi : PE X i ty) : PS X (.Delete [.Subscript o i tpos] pos) (sDDel td ty) := by
  intro pins s σ H D I h
  refine wpAny_Delete (wpAny_deleteEach_cons (wpAny_delete_Subscript (thn (ho pins s σ H _ I h) fun u s1 ⟨x, H1, I1, rx, q1⟩ => thn (hi pins s1 σ H1 _ I1 q1) fun iv s2 ⟨y, H2, I2, ry, a, kvs, k, ex, e, ey, l, q2⟩ => ?_)))
  subst ex ey
  obtain rfl : u = Value.ref a := rx
  exact d_delItem I2 e ry l fun s3 I3 => wpAny_deleteEach_nil ⟨σ, _, I3, q2⟩
end


/-! ### displays -/
theorem dk_empty {P : Program} {w : World} {H : Hp} (h : Heap) (hb : sysModules < h.objs.size) : ObjOk P w H (h.push { cls := .type "dict", data := .dict #[] }) h.objs.size (.dK []) :=
  ⟨Nat.zero_le _, beq_eq_false_iff_ne.mpr (Ne.symm (Nat.ne_of_lt hb)), [], .nil, Heap.DictOf.new h⟩
theorem dt_empty {P : Program} {w : World} {H : Hp} (h : Heap) (hb : sysModules < h.objs.size) : ObjOk P w H (h.push { cls := .type "dict", data := .dict #[] }) h.objs.size (.dT []) :=
  ⟨Nat.zero_le _, beq_eq_false_iff_ne.mpr (Ne.symm (Nat.ne_of_lt hb)), [], .nil, _, #[], 0, Heap.get?_push_size _ rfl, ⟨rfl, rfl, rfl⟩, rfl, rfl, List.nodup_nil⟩
/-- {}, to be a dict of the kind that is wanted -/
def tDNewK : TE := fun _ H Q => ∀ p, H p = none → Q (.ref p) (upd H p (.dK []))
def tDNewT : TE := fun _ H Q => ∀ p, H p = none → Q (.ref p) (upd H p (.dT []))
section
variable {X : Cx} {pos : Pos}
theorem pe_dnewK : PE X (.Dict [] [] pos) tDNewK := fun pins s σ H Q I h =>
  wpAny_Dict_empty ⟨.ref s.heap.objs.size, _, I.laid (a := s.heap.objs.size) (o := .dK []) (t' := s.toks) (fun _ _ q => Heap.get?_push_of_some _ q) (Nat.le_refl _) (dk_empty s.heap I.big), rfl, h _ (I.hok.fresh (Nat.le_refl _))⟩
theorem pe_dnewT : PE X (.Dict [] [] pos) tDNewT := fun pins s σ H Q I h =>
  wpAny_Dict_empty ⟨.ref s.heap.objs.size, _, I.laid (a := s.heap.objs.size) (o := .dT []) (t' := s.toks) (fun _ _ q => Heap.get?_push_of_some _ q) (Nat.le_refl _) (dt_empty s.heap I.big), rfl, h _ (I.hok.fresh (Nat.le_refl _))⟩
end

/-- the pairs of a display, from the left -/
def tPairs : List (TE × TE) → St → Hp → (List (V × V) → Hp → Prop) → Prop
  | [], _, H, Q => Q [] H
  | (tk, tv) :: r, σ, H, Q => tk σ H fun x H1 => tv σ H1 fun y H2 => tPairs r σ H2 fun ps H3 => Q ((x, y) :: ps) H3
abbrev VV : List (V × V) → List (Value × Value) → Prop := Paired fun p q => RelV p.1 q.1 ∧ RelV p.2 q.2
def PPs (X : Cx) (pos : Pos) (keys : List (Option Expr)) (values : List Expr) (trs : List (TE × TE)) : Prop :=
  ∀ (pins : List (Addr × Obj)) (s : Shared) (σ : St) (H : Hp) (Q : List (V × V) → Hp → Prop), Inv X pins σ H s → tPairs trs σ H Q →
    wpAny (model X.prog X.w) X.A (evalPairs (pairTrees keys values X.env pos)) (fun vs s' => ∃ ps H', Inv X pins σ H' s' ∧ VV ps vs ∧ Q ps H') X.xe s
theorem pps_nil {X : Cx} {pos : Pos} : PPs X pos [] [] [] := fun pins s σ H Q I h => pairTrees_nil_walk ⟨[], H, I, .nil, h⟩
theorem pps_cons {X : Cx} {pos : Pos} {k v : Expr} {ks : List (Option Expr)} {vs : List Expr} {tk tv : TE} {trs : List (TE × TE)} (hk : PE X k tk) (hv : PE X v tv) (hr : PPs X pos ks vs trs) :
    PPs X pos (some k :: ks) (v :: vs) ((tk, tv) :: trs) := fun pins s σ H Q I h =>
  pairTrees_cons_walk (thn (hk pins s σ H _ I h) fun u s1 ⟨x, H1, I1, rx, q1⟩ => thn (hv pins s1 σ H1 _ I1 q1) fun w2 s2 ⟨y, H2, I2, ry, q2⟩ =>
    thn (hr pins s2 σ H2 _ I2 q2) fun ws s3 ⟨ps, H3, I3, rel, q3⟩ => ⟨(x, y) :: ps, H3, I3, .cons ⟨rx, ry⟩ rel, q3⟩)

def mergeK (kvs more : List (Key × V)) : List (Key × V) := more.foldl (fun acc kv => putK acc kv.1 kv.2) kvs
theorem KV.merge : ∀ {more : List (Key × V)} {rs : List (Key × Value)} {kvs : List (Key × V)} {vs : List (Key × Value)}, KV more rs → KV kvs vs → KV (mergeK kvs more) (merged vs rs) := by
  intro more rs kvs vs r
  unfold KV at r
  induction r generalizing kvs vs with
  | nil => intro q; exact q
  | @cons p q ps qs h t ih =>
    intro r0
    have e : KV (putK kvs p.1 p.2) (stored vs q.1 q.2) := by
      have := r0.put p.1 h.2
      rw [← h.1]; exact this
    exact ih e
theorem length_mergeK : ∀ (more kvs : List (Key × V)), (mergeK kvs more).length ≤ kvs.length + more.length
  | [], kvs => by show kvs.length ≤ kvs.length + 0; omega
  | p :: r, kvs => by
    have h1 := length_mergeK r (putK kvs p.1 p.2)
    have h2 := length_putK kvs p.1 p.2
    show (mergeK (putK kvs p.1 p.2) r).length ≤ _
    rw [List.length_cons]; omega
theorem carries_of {P : Program} {w : World} : ∀ {kvs : List (Key × V)} {ws : List (Value × Value)}, VV (kvs.map fun kv => (kV kv.1, kv.2)) ws → ∃ rs, Carries (mixKind P w) ws rs ∧ KV kvs rs
  | [], _, r => by rw [List.map_nil] at r; cases r; exact ⟨[], True.intro, .nil⟩
  | p :: kvs, _, r => by
    rw [List.map_cons] at r
    cases r with
    | @cons a b as bs h t =>
      obtain ⟨rs, c, q⟩ := carries_of (P := P) (w := w) t
      obtain ⟨b1, b2⟩ := b
      exact ⟨(p.1, b2) :: rs, ⟨kV_is h.1, rfl, c⟩, .cons ⟨rfl, h.2⟩ q⟩
/-- {k: v, ..} with keys ints and texts; the new dict stands empty while the pairs are made -/
def tDisp (trs : List (TE × TE)) : TE := fun σ H Q => ∀ p, H p = none → tPairs trs σ (upd H p (.dK [])) fun ps H2 => H2 p = some (.dK []) ∧ ∃ kvs : List (Key × V), ps = kvs.map (fun kv => (kV kv.1, kv.2)) ∧ kvs.length ≤ 15 ∧ Q (.ref p) (upd H2 p (.dK (mergeK [] kvs)))
theorem pe_disp {X : Cx} {pos : Pos} {keys : List (Option Expr)} {values : List Expr} {trs : List (TE × TE)} (h : PPs X pos keys values trs) (hall : keys.all (·.isSome) = true) (hl : keys.length = values.length) (h0 : keys ≠ [])
    (h15 : keys.length ≤ 15) : PE X (.Dict keys values pos) (tDisp trs) := by
  intro pins s σ H Q I q
  have hn := I.hok.fresh (Nat.le_refl s.heap.objs.size)
  have I1 := I.laid (a := s.heap.objs.size) (o := .dK []) (h' := s.heap.push { cls := .type "dict", data := .dict #[] }) (t' := s.toks) (fun _ _ q => Heap.get?_push_of_some _ q) (Nat.le_refl _) (dk_empty s.heap I.big)
  refine wpAny_Dict_walk (knd := mixKind X.prog X.w) hall hl h0 h15 (thn (h pins _ σ _ _ I1 (q _ hn)) fun ws s2 ⟨ps, H2, I2, rel, e, kvs, ep, lk, q2⟩ => ?_)
  subst ep
  obtain ⟨rs, c, rk⟩ := carries_of (P := X.prog) (w := X.w) rel
  obtain ⟨z, hd, vs0, r0, dd⟩ := dk_of I2.hok e
  cases r0
  refine ⟨rs, c, dd, fun h' dd' hs => ⟨.ref s.heap.objs.size, _, ?_, rfl, q2⟩⟩
  have hz : (mergeK [] kvs).length ≤ sizeLine := by
    have h1 := length_mergeK kvs []
    rw [List.length_nil] at h1
    rw [sizeLine_eq]; omega
  have he : ∃ q, h'.get? s.heap.objs.size = some q := let ⟨q, _, _, hq, _⟩ := dd'; ⟨q, hq⟩
  exact d_write I2 (by rw [e]; exact True.intro) hs he (dk_new hz hd (rk.merge .nil) dd')


/-! ### methods -/
/-- a method call o.m(e) of a built-in, with one argument: what must be seen of the text -/
structure M1 (X : Cx) (o : Expr) (m : Str) (apos : Pos) (e : Expr) (cpos : Pos) : Prop where
  base : attributeBase o m X.env (eval o X.env) = eval o X.env
  few : ((backTo cpos (starEach [e] X.env)).all (fun x => !x.1) && (backToKw cpos (keywordEach [] X.env)).all (fun x => x.1.isSome)
    && decide (([e] : List Expr).length + ([] : List Keyword).length + (if ([] : List Keyword).isEmpty then 0 else 1) < 30)) = true
  line : (apos.endLine == cpos.line) = true
  trees : backTo cpos (starEach [e] X.env) = [(false, eval e X.env)]
structure M2 (X : Cx) (o : Expr) (m : Str) (apos : Pos) (e f : Expr) (cpos : Pos) : Prop where
  base : attributeBase o m X.env (eval o X.env) = eval o X.env
  few : ((backTo cpos (starEach [e, f] X.env)).all (fun x => !x.1) && (backToKw cpos (keywordEach [] X.env)).all (fun x => x.1.isSome)
    && decide (([e, f] : List Expr).length + ([] : List Keyword).length + (if ([] : List Keyword).isEmpty then 0 else 1) < 30)) = true
  line : (apos.endLine == cpos.line) = true
  trees : backTo cpos (starEach [e, f] X.env) = [(false, eval e X.env), (false, eval f X.env)]

/-- a is a dict, whatever its keys -/
def IsD (H : Hp) (a : Addr) : Prop := (∃ kvs, Rd H a (.dK kvs)) ∨ ∃ kvs, Rd H a (.dT kvs)
theorem isD_at {X : Cx} {pins : List (Addr × Obj)} {σ : St} {H : Hp} {s : Shared} {a : Addr} (I : Inv X pins σ H s) (d : IsD H a) :
    s.TypeIs (.ref a) "dict" ∧ (∀ b, Value.ref a = .ref b → ∃ ob, s.heap.get? b = some ob ∧ ob.dict = none) ∧ (a == sysModules) = false := by
  rcases d with ⟨kvs, e⟩ | ⟨kvs, e⟩
  · obtain ⟨_, hd, vs, _, dd⟩ := dk_rd I.hok e
    refine ⟨dd.typeIs, fun b q => ?_, hd⟩
    cases q
    obtain ⟨ob, _, _, h1, h2, _⟩ := dd
    exact ⟨ob, h1, h2.2.1⟩
  · obtain ⟨_, hd, xs, _, dd⟩ := dt_rd I.hok e
    refine ⟨dd.typeIs, fun b q => ?_, hd⟩
    cases q
    obtain ⟨ob, _, _, h1, h2, _⟩ := dd
    exact ⟨ob, h1, h2.2.1⟩

section
variable {X : Cx} {pins : List (Addr × Obj)} {σ : St} {H : Hp} {s : Shared} {a : Addr} {y d : V} {u r : Value} {o : Option V} {A : Around} {E : Value → Shared → Prop}
/-- d.get(y) -/
theorem d_get1 {Q : Value → Shared → Prop} (hu : A.units + 1 < cLine) (I : Inv X pins σ H s) (g : DGet H a y o) (ry : RelV y u) (h : ∀ w' s', Inv X pins σ H s' → RelV (o.getD .non) w' → Q w' s') :
    wpAny (model X.prog X.w) A (call (.builtin "dict.get") [.ref a, u]) Q E s := by
  rcases g with ⟨kvs, k, e, ey, l⟩ | ⟨kvs, k, b, e, ey, eb, l⟩
  · subst ey
    obtain ⟨z, hd, vs, rel, dd⟩ := dk_rd I.hok e
    refine call_meetsIn PySem.F.slot_dict_get dd.typeIs PySem.F.entry_dict_get (PySem.F.args_dict_get_2 _ _) (meets_dict_get (mixKind X.prog X.w) a (kV_is ry) hd) ⟨_, dd.mapOf, h _ _ (I.tok _) ?_⟩
    rw [l]
    exact (rel.val k).getD rfl
  · subst ey
    cases (show u = Value.ref b from ry)
    obtain ⟨z, hd, xs, rel, dd⟩ := dt_rd I.hok e
    refine call_meetsIn PySem.F.slot_dict_get dd.typeIs PySem.F.entry_dict_get (PySem.F.args_dict_get_2 _ _) (meetsH_dict_get (tupleKind (mixKind X.prog X.w)) a b hd) ⟨tupleKind_room_in1 hu, k, xs, key_of I.hok eb, dd, h _ _ (I.tok _) ?_⟩
    rw [l]
    exact (rel.val k).getD rfl
/-- d.get(y, x) -/
theorem d_get2 {Q : Value → Shared → Prop} (hu : A.units + 1 < cLine) (I : Inv X pins σ H s) (g : DGet H a y o) (ry : RelV y u) (rd : RelV d r) (h : ∀ w' s', Inv X pins σ H s' → RelV (o.getD d) w' → Q w' s') :
    wpAny (model X.prog X.w) A (call (.builtin "dict.get") [.ref a, u, r]) Q E s := by
  rcases g with ⟨kvs, k, e, ey, l⟩ | ⟨kvs, k, b, e, ey, eb, l⟩
  · subst ey
    obtain ⟨z, hd, vs, rel, dd⟩ := dk_rd I.hok e
    refine call_meetsIn PySem.F.slot_dict_get dd.typeIs PySem.F.entry_dict_get (PySem.F.args_dict_get_3 _ _ _) (meets_dict_get_default (mixKind X.prog X.w) a (kV_is ry) hd r) ⟨_, dd.mapOf, h _ _ (I.tok _) ?_⟩
    rw [l]
    exact (rel.val k).getD rd
  · subst ey
    cases (show u = Value.ref b from ry)
    obtain ⟨z, hd, xs, rel, dd⟩ := dt_rd I.hok e
    refine call_meetsIn PySem.F.slot_dict_get dd.typeIs PySem.F.entry_dict_get (PySem.F.args_dict_get_3 _ _ _) (meetsH_dict_get_default (tupleKind (mixKind X.prog X.w)) a b hd r) ⟨tupleKind_room_in1 hu, k, xs, key_of I.hok eb, dd, h _ _ (I.tok _) ?_⟩
    rw [l]
    exact (rel.val k).getD rd
end

def tDGet1 (td ty : TE) : TE := fun σ H Q => td σ H fun x H1 => ∃ a, x = .ref a ∧ IsD H1 a ∧ ty σ H1 fun y H2 => ∃ o, DGet H2 a y o ∧ Q (o.getD .non) H2
def tDGet2 (td ty tx : TE) : TE := fun σ H Q => td σ H fun x H1 => ∃ a, x = .ref a ∧ IsD H1 a ∧ ty σ H1 fun y H2 => tx σ H2 fun z H3 => ∃ o, DGet H3 a y o ∧ Q (o.getD z) H3
/-- d.pop(k): there; d.pop(k, x): there or not -/
def tDPop1 (td ty : TE) : TE := fun σ H Q => td σ H fun x H1 => ∃ a, x = .ref a ∧ IsD H1 a ∧ ty σ H1 fun y H2 => ∃ kvs k v, H2 a = some (.dK kvs) ∧ y = kV k ∧ valV kvs k = some v ∧ Q v (upd H2 a (.dK (dropK kvs k)))
def tDPop2 (td ty tx : TE) : TE := fun σ H Q => td σ H fun x H1 => ∃ a, x = .ref a ∧ IsD H1 a ∧ ty σ H1 fun y H2 => tx σ H2 fun z H3 => ∃ kvs k, H3 a = some (.dK kvs) ∧ y = kV k ∧
  (∀ v, valV kvs k = some v → Q v (upd H3 a (.dK (dropK kvs k)))) ∧ (valV kvs k = none → Q z H3)
section
variable {X : Cx} {o e f : Expr} {apos cpos : Pos} {td ty tx : TE}
theorem pe_dget1 (hu : X.A.units + 1 < cLine) (ho : PE X o td) (he : PE X e ty) (m : M1 X o "get" apos e cpos) : PE X (.Call (.Attribute o "get" apos) [e] [] cpos) (tDGet1 td ty) := by
  intro pins s σ H Q I h
  refine wpAny_Call_method m.base m.few m.line PySem.F.plainAttrs_dict PySem.F.slot_dict_get PySem.F.type_dict_get (thn (ho pins s σ H _ I h) fun u s1 ⟨x, H1, I1, rx, a, ex, d, q1⟩ => ?_)
  subst ex
  obtain rfl : u = Value.ref a := rx
  obtain ⟨t1, t2, _⟩ := isD_at I1 d
  refine ⟨t1, t2, ?_⟩
  rw [m.trees]
  refine Calls.callWith_builtin rfl (Calls.evalArgs_plain (Calls.spliced_cons (thn (he pins s1 σ H1 _ I1 q1) fun iv s2 ⟨y, H2, I2, ry, ov, g, q2⟩ => Calls.spliced_nil ?_)))
  exact d_get1 hu I2 g ry fun w' s3 I3 rw' => ⟨_, H2, I3, rw', q2⟩
theorem pe_dget2 (hu : X.A.units + 1 < cLine) (ho : PE X o td) (he : PE X e ty) (hf : PE X f tx) (m : M2 X o "get" apos e f cpos) : PE X (.Call (.Attribute o "get" apos) [e, f] [] cpos) (tDGet2 td ty tx) := by
  intro pins s σ H Q I h
  refine wpAny_Call_method m.base m.few m.line PySem.F.plainAttrs_dict PySem.F.slot_dict_get PySem.F.type_dict_get (thn (ho pins s σ H _ I h) fun u s1 ⟨x, H1, I1, rx, a, ex, d, q1⟩ => ?_)
  subst ex
  obtain rfl : u = Value.ref a := rx
  obtain ⟨t1, t2, _⟩ := isD_at I1 d
  refine ⟨t1, t2, ?_⟩
  rw [m.trees]
  refine Calls.callWith_builtin rfl (Calls.evalArgs_plain (Calls.spliced_cons (thn (he pins s1 σ H1 _ I1 q1) fun iv s2 ⟨y, H2, I2, ry, q2⟩ =>
    Calls.spliced_cons (thn (hf pins s2 σ H2 _ I2 q2) fun fv s3 ⟨z, H3, I3, rz, ov, g, q3⟩ => Calls.spliced_nil ?_))))
  exact d_get2 hu I3 g ry rz fun w' s4 I4 rw' => ⟨_, H3, I4, rw', q3⟩
theorem pe_dpop1 (ho : PE X o td) (he : PE X e ty) (m : M1 X o "pop" apos e cpos) : PE X (.Call (.Attribute o "pop" apos) [e] [] cpos) (tDPop1 td ty) := by
  intro pins s σ H Q I h
  refine wpAny_Call_method m.base m.few m.line PySem.F.plainAttrs_dict PySem.F.slot_dict_pop PySem.F.type_dict_pop (thn (ho pins s σ H _ I h) fun u s1 ⟨x, H1, I1, rx, a, ex, d, q1⟩ => ?_)
  subst ex
  obtain rfl : u = Value.ref a := rx
  obtain ⟨t1, t2, _⟩ := isD_at I1 d
  refine ⟨t1, t2, ?_⟩
  rw [m.trees]
  refine Calls.callWith_builtin rfl (Calls.evalArgs_plain (Calls.spliced_cons (thn (he pins s1 σ H1 _ I1 q1) fun iv s2 ⟨y, H2, I2, ry, kvs, k, v, ea, ey, l, q2⟩ => Calls.spliced_nil ?_)))
  subst ey
  exact d_pop I2 ea ry l (.inl rfl) fun w' s3 I3 rw' => ⟨v, _, I3, rw', q2⟩
theorem pe_dpop2 (ho : PE X o td) (he : PE X e ty) (hf : PE X f tx) (m : M2 X o "pop" apos e f cpos) : PE X (.Call (.Attribute o "pop" apos) [e, f] [] cpos) (tDPop2 td ty tx) := by
  intro pins s σ H Q I h
  refine wpAny_Call_method m.base m.few m.line PySem.F.plainAttrs_dict PySem.F.slot_dict_pop PySem.F.type_dict_pop (thn (ho pins s σ H _ I h) fun u s1 ⟨x, H1, I1, rx, a, ex, d, q1⟩ => ?_)
  subst ex
  obtain rfl : u = Value.ref a := rx
  obtain ⟨t1, t2, _⟩ := isD_at I1 d
  refine ⟨t1, t2, ?_⟩
  rw [m.trees]
  refine Calls.callWith_builtin rfl (Calls.evalArgs_plain (Calls.spliced_cons (thn (he pins s1 σ H1 _ I1 q1) fun iv s2 ⟨y, H2, I2, ry, q2⟩ =>
    Calls.spliced_cons (thn (hf pins s2 σ H2 _ I2 q2) fun fv s3 ⟨z, H3, I3, rz, kvs, k, ea, ey, q3, q4⟩ => Calls.spliced_nil ?_))))
  subst ey
  cases l : valV kvs k with
  | some v => exact d_pop I3 ea ry l (.inr ⟨fv, rfl⟩) fun w' s4 I4 rw' => ⟨v, _, I4, rw', q3 v l⟩
  | none => exact d_popD I3 ea ry l fun s4 I4 => ⟨z, H3, I4, rz, q4 l⟩
end

/-! ### dict(d): a copy -/
section
variable {X : Cx} {pins : List (Addr × Obj)} {σ : St} {H : Hp} {s : Shared} {a : Addr} {kvs : List (Key × V)} {A : Around} {E : Value → Shared → Prop}
theorem d_copyOf {Q : Value → Shared → Prop} (I : Inv X pins σ H s) (e : Rd H a (.dK kvs)) (h : ∀ p s', H p = none → Inv X pins σ (upd H p (.dK kvs)) s' → Q (.ref p) s') : wpAny (model X.prog X.w) A (call (.type "dict") [.ref a]) Q E s := by
  obtain ⟨z, hd, vs, rel, dd⟩ := dk_rd I.hok e
  refine kt_call_dict hd dd (by rw [← rel.length]; exact z) fun h' dd' hs => ?_
  refine h _ _ (I.hok.fresh (Nat.le_refl _)) (I.laid (a := s.heap.objs.size) (o := .dK kvs) (t' := s.toks) (fun b q hq => ?_) (Nat.le_refl _) (dk_new z (beq_eq_false_iff_ne.mpr (Ne.symm (Nat.ne_of_lt I.big))) rel dd'))
  exact (hs.2 b (Nat.ne_of_lt (Heap.lt_size hq))).trans (Heap.get?_push_of_some _ hq)
end


section
variable {X : Cx} {pins : List (Addr × Obj)} {σ : St} {H : Hp} {s : Shared} {a : Addr} {y : V} {u : Value} {A : Around} {E : Value → Shared → Prop}
/-- d[y], not there: a KeyError -/
theorem d_missing {Q : Value → Shared → Prop} (hu : A.units + 1 < cLine) (hh : A.handled = none) (I : Inv X pins σ H s) (g : DGet H a y none) (ry : RelV y u)
    (h : ∀ h' e t', Heap.NewExc s.heap h' e "KeyError" → E (.ref e) { s with heap := h', toks := t' }) : wpAny (model X.prog X.w) A (getItem (.ref a) u) Q E s := by
  rcases g with ⟨kvs, k, e, ey, l⟩ | ⟨kvs, k, b, e, ey, eb, l⟩
  · subst ey
    obtain ⟨z, hd, vs, rel, dd⟩ := dk_rd I.hok e
    have hn : valueAt vs k = none := RelO.none_of (by rw [l]; exact rel.val k)
    exact wpAny_getItem_missing_of (kV_is ry) hd hh dd.mapOf hn fun h' ex ne => h h' ex _ ne
  · subst ey
    cases (show u = Value.ref b from ry)
    obtain ⟨z, hd, xs, rel, dd⟩ := dt_rd I.hok e
    have hn : (atKey xs k).map (·.2) = none := RelO.none_of (by rw [l]; exact rel.val k)
    exact wpAny_getItem_missing_heap (tupleKind_room_in1 hu) (key_of I.hok eb) hd hh dd (Option.map_eq_none_iff.mp hn) fun h' ex ne => h h' ex _ ne
end
end L2
set_option Elab.async false
set_option linter.all false
set_option maxRecDepth 100000
set_option maxHeartbeats 4000000
namespace BF
open PySem L2

/-- a datum: a value without addresses -/
inductive Dm where
  | non | bl (b : Bool) | int (i : Int) | str (x : Str) | lst (ds : List Dm) | tup (ds : List Dm)
  deriving Inhabited

mutual
def Rep (K : PySem.W.Frag) (G : Hp) : Dm → V → Prop
  | .non, v => v = .non
  | .bl b, v => v = .bl b
  | .int i, v => v = .int i
  | .str x, v => v = .str x
  | .lst ds, v => ∃ a xs, v = .ref a ∧ SqL K G a xs ∧ Reps K G ds xs
  | .tup ds, v => ∃ a xs, v = .ref a ∧ SqT K G a xs ∧ Reps K G ds xs
def Reps (K : PySem.W.Frag) (G : Hp) : List Dm → List V → Prop
  | [], xs => xs = []
  | d :: ds, xs => ∃ v r, xs = v :: r ∧ Rep K G d v ∧ Reps K G ds r
end

theorem Same.seqT {K : PySem.W.Frag} {H H' : Hp} {a : Addr} {xs : List V} (e : Same H H') (h : SqT K H a xs) : SqT K H' a xs := by
  rcases h with h | h
  · refine .inl ?_
    rcases h with h | ⟨o, h⟩
    · exact .inl (e _ _ h)
    · exact .inr ⟨o, e _ _ h⟩
  · exact .inr h

mutual
theorem Rep.mono {K : PySem.W.Frag} {G G' : Hp} (s : Same G G') : ∀ {d : Dm} {v : V}, Rep K G d v → Rep K G' d v
  | .non, v, h => by unfold Rep at h ⊢; exact h
  | .bl b, v, h => by unfold Rep at h ⊢; exact h
  | .int i, v, h => by unfold Rep at h ⊢; exact h
  | .str x, v, h => by unfold Rep at h ⊢; exact h
  | .lst ds, v, h => by
    unfold Rep at h ⊢
    obtain ⟨a, xs, e, q, r⟩ := h
    exact ⟨a, xs, e, s.seq q, Reps.mono s r⟩
  | .tup ds, v, h => by
    unfold Rep at h ⊢
    obtain ⟨a, xs, e, q, r⟩ := h
    exact ⟨a, xs, e, Same.seqT s q, Reps.mono s r⟩
theorem Reps.mono {K : PySem.W.Frag} {G G' : Hp} (s : Same G G') : ∀ {ds : List Dm} {xs : List V}, Reps K G ds xs → Reps K G' ds xs
  | [], xs, h => by unfold Reps at h ⊢; exact h
  | d :: ds, xs, h => by
    unfold Reps at h ⊢
    obtain ⟨v, r, e, q, t⟩ := h
    exact ⟨v, r, e, Rep.mono s q, Reps.mono s t⟩
end
section
variable {K : PySem.W.Frag} {G : Hp}
theorem Reps.nil : Reps K G [] [] := by unfold Reps; rfl
theorem Reps.cons {d : Dm} {v : V} {ds : List Dm} {xs : List V} (h : Rep K G d v) (t : Reps K G ds xs) : Reps K G (d :: ds) (v :: xs) := by unfold Reps; exact ⟨v, xs, rfl, h, t⟩
theorem Reps.length : ∀ {ds : List Dm} {xs : List V}, Reps K G ds xs → ds.length = xs.length
  | [], xs, h => by unfold Reps at h; subst h; rfl
  | d :: ds, xs, h => by
    unfold Reps at h
    obtain ⟨v, r, e, q, t⟩ := h
    rw [e, List.length_cons, List.length_cons, Reps.length t]
theorem Reps.get : ∀ {ds : List Dm} {xs : List V} {i : Nat} {d : Dm}, Reps K G ds xs → ds[i]? = some d → ∃ v, xs[i]? = some v ∧ Rep K G d v
  | [], xs, i, d, h, e => by simp at e
  | c :: ds, xs, i, d, h, e => by
    unfold Reps at h
    obtain ⟨v, r, e1, q, t⟩ := h
    subst e1
    cases i with
    | zero => simp at e; subst e; exact ⟨v, rfl, q⟩
    | succ i => exact Reps.get (i := i) t (by simpa using e)
theorem Reps.append : ∀ {ds es : List Dm} {xs ys : List V}, Reps K G ds xs → Reps K G es ys → Reps K G (ds ++ es) (xs ++ ys)
  | [], es, xs, ys, h, h' => by unfold Reps at h; subst h; exact h'
  | d :: ds, es, xs, ys, h, h' => by
    unfold Reps at h
    obtain ⟨v, r, e1, q, t⟩ := h
    subst e1
    exact Reps.cons q (Reps.append t h')
theorem Reps.take : ∀ {ds : List Dm} {xs : List V} (n : Nat), Reps K G ds xs → Reps K G (ds.take n) (xs.take n)
  | ds, xs, 0, h => by simpa using Reps.nil
  | [], xs, n + 1, h => by unfold Reps at h; subst h; exact Reps.nil
  | d :: ds, xs, n + 1, h => by
    unfold Reps at h
    obtain ⟨v, r, e1, q, t⟩ := h
    subst e1
    exact Reps.cons q (Reps.take n t)
theorem Reps.drop : ∀ {ds : List Dm} {xs : List V} (n : Nat), Reps K G ds xs → Reps K G (ds.drop n) (xs.drop n)
  | ds, xs, 0, h => h
  | [], xs, n + 1, h => by unfold Reps at h; subst h; exact Reps.nil
  | d :: ds, xs, n + 1, h => by
    unfold Reps at h
    obtain ⟨v, r, e1, q, t⟩ := h
    subst e1
    exact Reps.drop n t
theorem Reps.set {e : Dm} {u : V} (he : Rep K G e u) : ∀ {ds : List Dm} {xs : List V} (n : Nat), Reps K G ds xs → Reps K G (ds.set n e) (xs.set n u)
  | [], xs, n, h => by unfold Reps at h; subst h; exact Reps.nil
  | d :: ds, xs, 0, h => by
    unfold Reps at h
    obtain ⟨v, r, e1, q, t⟩ := h
    subst e1
    exact Reps.cons he t
  | d :: ds, xs, n + 1, h => by
    unfold Reps at h
    obtain ⟨v, r, e1, q, t⟩ := h
    subst e1
    exact Reps.cons q (Reps.set he n t)
theorem Reps.rep {ds : List Dm} {xs : List V} (h : Reps K G ds xs) : ∀ k : Nat, Reps K G (List.replicate k ds).flatten (List.replicate k xs).flatten
  | 0 => Reps.nil
  | k + 1 => by
    rw [List.replicate_succ, List.replicate_succ, List.flatten_cons, List.flatten_cons]
    exact Reps.append h (Reps.rep h k)
end

/-- the object at a is an exception of the class at C -/
def ExH (a C : Addr) : HO := .ext fun h => ∃ oe, h.get? a = some oe ∧ oe.cls = .ref C
/-- where the class of the text is that the name c bears -/
def clsK (K : PySem.W.Frag) (c : Str) : Option Addr := match PySem.W.nsIn K mainGlobals c with
  | some (some (.ref C)) => some C
  | _ => none
/-- the object at a is an exception of the class that is called c -/
def XcR (K : PySem.W.Frag) (G : Hp) (c : Str) (a : Addr) : Prop := ∃ C, clsK K c = some C ∧ G a = some (ExH a C)
theorem XcR.mono {K : PySem.W.Frag} {G G' : Hp} {c : Str} {a : Addr} (h : XcR K G c a) (s : Same G G') : XcR K G' c a := let ⟨C, e, z⟩ := h; ⟨C, e, s _ _ z⟩
/-- a slot of the frame (xc: an exception of the class c) -/
inductive Sl where
  | un | sh (d : Dm) | ow (ds : List Dm) | so (C : Hp) (d : Dm) | pt (p : Addr) (k : Option Nat) (d : Dm) | xc (c : Str)
/-- an expression's result: shared; a list of its own; the own list of slot i -/
inductive Rs where
  | sh (d : Dm) | ow (ds : List Dm) | al (i : Nat) (ds : List Dm) | ft (pre es : List Dm)
def Rs.dat : Rs → Dm
  | .sh d => d
  | .ow ds => .lst ds
  | .al _ ds => .lst ds
  | .ft pre es => .tup (pre ++ [.lst es])
/-- how long the list is that stands at k in the datum -/
def tlen : Dm → Option Nat → Nat
  | .lst ds, none => ds.length
  | .tup cs, some k => match cs[k]? with
    | some (.lst es) => es.length
    | _ => 0
  | _, _ => 0
/-- where the list at p stands in the value v: it itself, or at the place k of a tuple -/
def Tgt (K : PySem.W.Frag) (G : Hp) : Option Nat → V → Addr → Prop
  | none, v, p => v = .ref p
  | some k, v, p => ∃ a vs, v = .ref a ∧ SqT K G a vs ∧ vs[k]? = some (.ref p)
theorem Tgt.mono {K : PySem.W.Frag} {G G' : Hp} (s : Same G G') : ∀ {k : Option Nat} {v : V} {p : Addr}, Tgt K G k v p → Tgt K G' k v p
  | none, _, _, h => h
  | some _, _, _, ⟨a, vs, e, q, r⟩ => ⟨a, vs, e, Same.seqT s q, r⟩

def SlR (K : PySem.W.Frag) (B G H : Hp) : Sl → Option (Option V) → Prop
  | .un, _ => True
  | .sh d, o => ∃ v, o = some (some v) ∧ Rep K G d v
  | .ow ds, o => ∃ p xs, o = some (some (.ref p)) ∧ H p = some (.lst xs) ∧ G p = none ∧ B p = none ∧ Reps K G ds xs
  | .so C d, o => ∃ v, o = some (some v) ∧ Rep K C d v ∧ Same C G
  | .pt p k d, o => ∃ v xs, o = some (some v) ∧ Rep K G d v ∧ G p = some (.lst xs) ∧ Tgt K G k v p ∧ tlen d k = xs.length
  | .xc c, o => ∃ a, o = some (some (.ref a)) ∧ XcR K G c a

/-- no slot's own list stands at p -/
def NS (δ : List Sl) (σ : St) (p : Addr) : Prop := ∀ (i : Nat) (ds : List Dm), δ[i]? = some (Sl.ow ds) → σ[i]? ≠ some (some (V.ref p))

structure Sim (K : PySem.W.Frag) (B G0 G : Hp) (δ : List Sl) (σ : St) (H : Hp) : Prop where
  len : δ.length = σ.length
  bh : Same B H
  g0 : Same G0 G
  gh : Same G H
  gb : ∀ b, B b ≠ none → G b = G0 b
  slot : ∀ (i : Nat) (s : Sl), δ[i]? = some s → SlR K B G H s (σ[i]?)
  disj : ∀ (i j : Nat) (ds es : List Dm) (p : Addr), i ≠ j → δ[i]? = some (Sl.ow ds) → δ[j]? = some (Sl.ow es) → σ[i]? = some (some (V.ref p)) → σ[j]? = some (some (V.ref p)) → False

/-- view and heap grow, the view by new objects alone -/
structure Gr (G H G' H' : Hp) : Prop where
  gg : Same G G'
  hh : Same H H'
  nw : ∀ b, H b ≠ none → G' b = G b
theorem Gr.refl {G H : Hp} : Gr G H G H := ⟨Same.refl G, Same.refl H, fun _ _ => rfl⟩
theorem Gr.trans {G H G1 H1 G2 H2 : Hp} (a : Gr G H G1 H1) (b : Gr G1 H1 G2 H2) : Gr G H G2 H2 := ⟨a.gg.trans b.gg, a.hh.trans b.hh, fun c hc => by
  have h1 : H1 c ≠ none := by
    cases q : H c with
    | none => exact absurd q hc
    | some o => rw [a.hh c o q]; simp
  rw [b.nw c h1, a.nw c hc]⟩
/-- a result; H0: the heap ahead of it -/
def RsR (K : PySem.W.Frag) (H0 G H : Hp) (δ : List Sl) (σ : St) : Rs → V → Prop
  | .sh d, v => Rep K G d v
  | .ow ds, v => ∃ p xs, v = .ref p ∧ H p = some (.lst xs) ∧ G p = none ∧ H0 p = none ∧ Reps K G ds xs
  | .al i ds, v => δ[i]? = some (.ow ds) ∧ σ[i]? = some (some v)
  | .ft pre es, v => ∃ a p vs xs, v = .ref a ∧ H a = some (.tup (vs ++ [.ref p])) ∧ H p = some (.lst xs) ∧ G a = none ∧ G p = none ∧ H0 a = none ∧ H0 p = none ∧ Reps K G pre vs ∧ Reps K G es xs

abbrev EF := List Sl → Option Rs
def tD (K : PySem.W.Frag) (f : EF) : TE := fun σ H Q => ∃ B G0 G δ r, Sim K B G0 G δ σ H ∧ f δ = some r ∧
  ∀ v G' H', Sim K B G0 G' δ σ H' → Gr G H G' H' → RsR K H G' H' δ σ r v → Q v H'
def PD (X : Cx) (e : Expr) (f : EF) : Prop := PE X e (tD X.K f)

theorem PE.imp {X : Cx} {e : Expr} {t t' : TE} (h : PE X e t) (i : ∀ σ H Q, t' σ H Q → t σ H Q) : PE X e t' := fun pins s σ H Q I q => h pins s σ H Q I (i σ H Q q)
theorem PT.imp {X : Cx} {e : Expr} {t t' : TT} (h : PT X e t) (i : ∀ σ H Q, t' σ H Q → t σ H Q) : PT X e t' := fun pins s σ H Q I q => h pins s σ H Q I (i σ H Q q)
theorem PS.imp {X : Cx} {e : Stmt} {t t' : TS} (h : PS X e t) (i : ∀ D σ H, t' D σ H → t D σ H) : PS X e t' := fun pins s σ H Q I q => h pins s σ H Q I (i Q σ H q)
theorem PSs.imp {X : Cx} {e : List Stmt} {t t' : TS} (h : PSs X e t) (i : ∀ D σ H, t' D σ H → t D σ H) : PSs X e t' := fun pins s σ H Q I q => h pins s σ H Q I (i Q σ H q)

section
variable {K : PySem.W.Frag} {B B' G0 G G' H H' : Hp} {δ : List Sl} {σ : St}
theorem Same.upd_new {H : Hp} {p : Addr} {o : HO} (h : H p = none) : Same H (upd H p o) := fun b u e => by
  rw [upd_ne (ne_of_none e h)]; exact e
/-- the heap grows -/
theorem Sim.grow (S : Sim K B G0 G δ σ H) (e : Same H H') : Sim K B G0 G δ σ H' where
  len := S.len
  bh := S.bh.trans e
  g0 := S.g0
  gh := S.gh.trans e
  gb := S.gb
  slot := fun i s h => by
    have q := S.slot i s h
    cases s with
    | un => trivial
    | sh d => exact q
    | ow ds => obtain ⟨p, xs, e1, e2, r⟩ := q; exact ⟨p, xs, e1, e _ _ e2, r⟩
    | so C d => exact q
    | pt p k d => exact q
    | xc C => exact q
  disj := S.disj
/-- a new object joins the view -/
theorem Sim.view (S : Sim K B G0 G δ σ H) {p : Addr} {o : HO} (hp : H p = some o) (hg : G p = none) (hb : B p = none) (ns : NS δ σ p) : Sim K B G0 (upd G p o) δ σ H where
  len := S.len
  bh := S.bh
  g0 := S.g0.trans (Same.upd_new hg)
  gh := fun b u e => by
    by_cases z : b = p
    · subst z; rw [upd_same] at e; rw [hp]; exact e
    · rw [upd_ne z] at e; exact S.gh b u e
  gb := fun b hbb => by
    rw [upd_ne (by rintro rfl; exact hbb hb)]; exact S.gb b hbb
  slot := fun i s h => by
    have q := S.slot i s h
    cases s with
    | un => trivial
    | sh d => obtain ⟨v, e, r⟩ := q; exact ⟨v, e, r.mono (Same.upd_new hg)⟩
    | ow ds =>
      obtain ⟨q, xs, e1, e2, e3, e4, r⟩ := q
      refine ⟨q, xs, e1, e2, ?_, e4, r.mono (Same.upd_new hg)⟩
      rw [upd_ne (by rintro rfl; exact ns i ds h e1)]; exact e3
    | so C d => obtain ⟨v, e, r, z⟩ := q; exact ⟨v, e, r, z.trans (Same.upd_new hg)⟩
    | pt p' k d =>
      obtain ⟨v, xs, e, r, z, t, l⟩ := q
      exact ⟨v, xs, e, r.mono (Same.upd_new hg), Same.upd_new hg _ _ z, t.mono (Same.upd_new hg), l⟩
    | xc C => obtain ⟨a, e, z⟩ := q; exact ⟨a, e, z.mono (Same.upd_new hg)⟩
  disj := S.disj
theorem Sim.ns_of_free (S : Sim K B G0 G δ σ H) {p : Addr} (hp : H p = none) : NS δ σ p := fun i ds h e => by
  obtain ⟨q, xs, e1, e2, _⟩ := S.slot i _ h
  rw [e] at e1
  have e3 : p = q := by injection e1 with e1; injection e1 with e1; injection e1
  subst e3
  rw [hp] at e2; cases e2
theorem Sim.g_free (S : Sim K B G0 G δ σ H) {p : Addr} (hp : H p = none) : G p = none := S.gh.free hp
theorem Sim.b_free (S : Sim K B G0 G δ σ H) {p : Addr} (hp : H p = none) : B p = none := S.bh.free hp
/-- a new shared object (a tuple): the heap and the view grow by it -/
theorem Sim.newSh (S : Sim K B G0 G δ σ H) {p : Addr} {o : HO} (hp : H p = none) : Sim K B G0 (upd G p o) δ σ (upd H p o) :=
  (S.grow (Same.upd_new hp)).view upd_same (S.g_free hp) (S.b_free hp) (S.ns_of_free hp)

/-- a list that may be read: its node in the heap, its items in the view -/
def LstAt (K : PySem.W.Frag) (G H : Hp) (ds : List Dm) (v : V) : Prop := ∃ a xs, v = .ref a ∧ SqL K H a xs ∧ Reps K G ds xs
theorem RsR.rep (S : Sim K B G0 G δ σ H) {r : Rs} {v : V} (h : RsR K B' G H δ σ r v) : Rep K H r.dat v := by
  cases r with
  | sh d => exact Rep.mono S.gh h
  | ow ds =>
    obtain ⟨p, xs, e, e1, _, _, r⟩ := h
    show Rep K H (.lst ds) v
    unfold Rep
    exact ⟨p, xs, e, SqL.of e1, r.mono S.gh⟩
  | al i ds =>
    obtain ⟨h1, h2⟩ := h
    obtain ⟨p, xs, e, e1, _, _, r⟩ := S.slot i _ h1
    rw [h2] at e
    show Rep K H (.lst ds) v
    unfold Rep
    refine ⟨p, xs, ?_, SqL.of e1, r.mono S.gh⟩
    injection e with e; injection e
  | ft pre es =>
    obtain ⟨a, p, vs, xs, e, e1, e2, _, _, _, _, r1, r2⟩ := h
    show Rep K H (.tup (pre ++ [.lst es])) v
    unfold Rep
    refine ⟨a, _, e, SqT.of e1, (r1.mono S.gh).append (Reps.cons ?_ Reps.nil)⟩
    unfold Rep
    exact ⟨p, xs, rfl, SqL.of e2, r2.mono S.gh⟩
theorem RsR.lst (S : Sim K B G0 G δ σ H) {r : Rs} {v : V} {ds : List Dm} (h : RsR K B' G H δ σ r v) (e : r.dat = .lst ds) : LstAt K G H ds v := by
  cases r with
  | sh d =>
    obtain rfl : d = .lst ds := e
    have h' : Rep K G (.lst ds) v := h
    unfold Rep at h'
    obtain ⟨a, xs, e1, q, r⟩ := h'
    exact ⟨a, xs, e1, S.gh.seq q, r⟩
  | ow es =>
    obtain rfl : es = ds := by injection e
    obtain ⟨p, xs, e, e1, _, _, r⟩ := h
    exact ⟨p, xs, e, SqL.of e1, r⟩
  | al i es =>
    obtain rfl : es = ds := by injection e
    obtain ⟨h1, h2⟩ := h
    obtain ⟨p, xs, e, e1, _, _, r⟩ := S.slot i _ h1
    rw [h2] at e
    refine ⟨p, xs, ?_, SqL.of e1, r⟩
    injection e with e; injection e
  | ft pre es => cases e
theorem RsR.tup (S : Sim K B G0 G δ σ H) {r : Rs} {v : V} {ds : List Dm} (h : RsR K B' G H δ σ r v) (hs : (match r with | .ft _ _ => false | _ => true) = true) (e : r.dat = .tup ds) : ∃ a xs, v = .ref a ∧ SqT K H a xs ∧ Reps K G ds xs := by
  cases r with
  | sh d =>
    obtain rfl : d = .tup ds := e
    have h' : Rep K G (.tup ds) v := h
    unfold Rep at h'
    obtain ⟨a, xs, e1, q, r⟩ := h'
    exact ⟨a, xs, e1, Same.seqT S.gh q, r⟩
  | ow es => cases e
  | al i es => cases e
  | ft pre es => cases hs
/-- a result stays one while view and heap grow, where it is no own list -/
def Rs.still : Rs → Bool
  | .ow _ => false
  | .ft _ _ => false
  | _ => true
theorem RsR.mono {r : Rs} {v : V} {B'' : Hp} (h : RsR K B' G H δ σ r v) (hs : r.still = true) (e : Same G G') : RsR K B'' G' H' δ σ r v := by
  cases r with
  | sh d => exact Rep.mono e h
  | ow ds => cases hs
  | al i ds => exact h
  | ft pre es => cases hs
end

/-- own lists join the view -/
def Rs.fz : Rs → Rs
  | .ow ds => .sh (.lst ds)
  | .ft pre es => .sh (.tup (pre ++ [.lst es]))
  | r => r
def fz (f : EF) : EF := fun δ => (f δ).map Rs.fz
theorem Rs.fz_still (r : Rs) : r.fz.still = true := by cases r <;> rfl
theorem Rs.fz_dat (r : Rs) : r.fz.dat = r.dat := by cases r <;> rfl
theorem tD_fz {K : PySem.W.Frag} {f : EF} {σ : St} {H : Hp} {Q : VK} (h : tD K (fz f) σ H Q) : tD K f σ H Q := by
  obtain ⟨B, G0, G, δ, r, S, e, k⟩ := h
  unfold fz at e
  cases e0 : f δ with
  | none => rw [e0] at e; cases e
  | some r0 =>
    rw [e0] at e
    have e' : r0.fz = r := Option.some.inj e
    subst e'
    refine ⟨B, G0, G, δ, r0, S, e0, fun v G' H' S' g q => ?_⟩
    cases r0 with
    | sh d => exact k v G' H' S' g q
    | al i ds => exact k v G' H' S' g q
    | ow ds =>
      obtain ⟨p, xs, rfl, e1, e2, e3, r⟩ := q
      refine k _ (upd G' p (.lst xs)) H' (S'.view e1 e2 (S.b_free e3) (S.ns_of_free e3)) ⟨g.gg.trans (Same.upd_new e2), g.hh, fun b hb => by rw [upd_ne (by rintro rfl; exact hb e3)]; exact g.nw b hb⟩ ?_
      show Rep K _ (.lst ds) _
      unfold Rep
      exact ⟨p, xs, rfl, SqL.of upd_same, r.mono (Same.upd_new e2)⟩
    | ft pre es =>
      obtain ⟨a, p, vs, xs, rfl, e1, e2, e3, e4, e5, e6, r1, r2⟩ := q
      have hne : a ≠ p := by rintro rfl; rw [e1] at e2; cases e2
      have S2 := S'.view e2 e4 (S.b_free e6) (S.ns_of_free e6)
      have ga : upd G' p (.lst xs) a = none := by rw [upd_ne hne]; exact e3
      have S3 := S2.view e1 ga (S.b_free e5) (S.ns_of_free e5)
      refine k _ _ H' S3 ⟨(g.gg.trans (Same.upd_new e4)).trans (Same.upd_new ga), g.hh, fun b hb => by rw [upd_ne (by rintro rfl; exact hb e5), upd_ne (by rintro rfl; exact hb e6)]; exact g.nw b hb⟩ ?_
      show Rep K _ (.tup (pre ++ [.lst es])) _
      unfold Rep
      refine ⟨a, _, rfl, SqT.of upd_same, (r1.mono ((Same.upd_new e4).trans (Same.upd_new ga))).append (Reps.cons ?_ Reps.nil)⟩
      unfold Rep
      exact ⟨p, xs, rfl, SqL.of (by rw [upd_ne (Ne.symm hne)]; exact upd_same), r2.mono ((Same.upd_new e4).trans (Same.upd_new ga))⟩
theorem PD.fz {X : Cx} {e : Expr} {f : EF} (h : PD X e f) : PD X e (fz f) := PE.imp h fun _ _ _ q => tD_fz q

/-- what is wanted behind an expression whose result is r -/
structure KD (K : PySem.W.Frag) (B G0 G : Hp) (δ : List Sl) (σ : St) (H : Hp) (r : Rs) (Q : VK) : Prop where
  sim : Sim K B G0 G δ σ H
  out : ∀ v G' H', Sim K B G0 G' δ σ H' → Gr G H G' H' → RsR K H G' H' δ σ r v → Q v H'
section
variable {K : PySem.W.Frag} {B G0 G G' H H' : Hp} {δ : List Sl} {σ : St} {r : Rs} {Q : VK}
theorem RsR.pre {v : V} (h : RsR K H' G H δ σ r v) {H0 : Hp} (e : Same H0 H') : RsR K H0 G H δ σ r v := by
  cases r with
  | sh d => exact h
  | al i ds => exact h
  | ow ds => obtain ⟨p, xs, e1, e2, e3, e4, q⟩ := h; exact ⟨p, xs, e1, e2, e3, e.free e4, q⟩
  | ft pre es => obtain ⟨a, p, vs, xs, e1, e2, e3, e4, e5, e6, e7, q⟩ := h; exact ⟨a, p, vs, xs, e1, e2, e3, e4, e5, e.free e6, e.free e7, q⟩
theorem KD.step (k : KD K B G0 G δ σ H r Q) (S : Sim K B G0 G' δ σ H') (g : Gr G H G' H') : KD K B G0 G' δ σ H' r Q := ⟨S, fun v G2 H2 S2 g2 q => k.out v G2 H2 S2 (g.trans g2) (q.pre g.hh)⟩
theorem KD.tD {f : EF} (k : KD K B G0 G δ σ H r Q) (e : f δ = some r) : tD K f σ H Q := ⟨B, G0, G, δ, r, k.sim, e, k.out⟩
theorem KD.now {v : V} (k : KD K B G0 G δ σ H r Q) (q : RsR K H G H δ σ r v) : Q v H := k.out v G H k.sim Gr.refl q
/-- a new list of its own -/
theorem KD.newL {ds : List Dm} {xs : List V} {p : Addr} (k : KD K B G0 G δ σ H (.ow ds) Q) (hr : Reps K G ds xs) (hp : H p = none) : Q (.ref p) (upd H p (.lst xs)) :=
  k.out _ G _ (k.sim.grow (Same.upd_new hp)) ⟨Same.refl G, Same.upd_new hp, fun _ _ => rfl⟩ ⟨p, xs, rfl, upd_same, k.sim.g_free hp, hp, hr⟩
/-- a new tuple -/
theorem KD.newT {ds : List Dm} {xs : List V} {p : Addr} (k : KD K B G0 G δ σ H (.sh (.tup ds)) Q) (hr : Reps K G ds xs) (hp : H p = none) : Q (.ref p) (upd H p (.tup xs)) := by
  refine k.out _ _ _ (k.sim.newSh hp) ⟨Same.upd_new (k.sim.g_free hp), Same.upd_new hp, fun b hb => upd_ne (by rintro rfl; exact hb hp)⟩ ?_
  show Rep K _ (.tup ds) _
  unfold Rep
  exact ⟨p, xs, rfl, SqT.of upd_same, hr.mono (Same.upd_new (k.sim.g_free hp))⟩
end
/-- the view and the heap grow -/
theorem Sim.ext {K : PySem.W.Frag} {B G0 G G' H H' : Hp} {δ : List Sl} {σ : St} (S : Sim K B G0 G δ σ H) (g : Gr G H G' H') (gh : Same G' H') : Sim K B G0 G' δ σ H' := by
  refine ⟨S.len, S.bh.trans g.hh, S.g0.trans g.gg, gh, fun b hb => ?_, fun i s hs => ?_, S.disj⟩
  · have hb' : H b ≠ none := by
      cases q : B b with
      | none => exact absurd q hb
      | some o => rw [S.bh b o q]; simp
    rw [g.nw b hb']; exact S.gb b hb
  · have q := S.slot i s hs
    cases s with
    | un => trivial
    | sh d => obtain ⟨v, e, r⟩ := q; exact ⟨v, e, r.mono g.gg⟩
    | ow ds =>
      obtain ⟨p, xs, e1, e2, e3, e4, r⟩ := q
      exact ⟨p, xs, e1, g.hh _ _ e2, by rw [g.nw p (by rw [e2]; simp)]; exact e3, e4, r.mono g.gg⟩
    | so C d => obtain ⟨v, e, r, z⟩ := q; exact ⟨v, e, r, z.trans g.gg⟩
    | pt p' k d => obtain ⟨v, xs, e, r, z, t, l⟩ := q; exact ⟨v, xs, e, r.mono g.gg, g.gg _ _ z, t.mono g.gg, l⟩
    | xc C => obtain ⟨a, e, z⟩ := q; exact ⟨a, e, z.mono g.gg⟩
end BF
set_option Elab.async false
set_option linter.all false
set_option maxRecDepth 100000
set_option maxHeartbeats 4000000
namespace BF
open PySem PySem.Spec PyProof.Rows L2
section
variable {X : Cx}

def rCatQ (K : PySem.W.Frag) : R2 := fun x y H Q => ∃ l b xs zs, x = .ref l ∧ y = .ref b ∧ SqL K H l xs ∧ SqL K H b zs ∧ xs.length + zs.length ≤ sizeLine ∧ ∀ p, H p = none → Q (.ref p) (upd H p (.lst (xs ++ zs)))
theorem op_catQ : OpR X (binaryOp .Add) (rCatQ X.K) := by
  intro pins s σ H x y v u Q I rx ry h
  obtain ⟨l, b, xs, zs, rfl, rfl, hH, hB, hz, q⟩ := h
  cases rx
  cases ry
  obtain ⟨its, r, pl, _⟩ := I.list hH
  obtain ⟨its2, r2, pl2, _⟩ := I.list hB
  obtain ⟨⟨cls, dd, data, sl⟩, ho, hc, n, hd⟩ := id pl.isList
  obtain ⟨⟨cls2, dd2, data2, sl2⟩, ho2, hc2, n2, hd2⟩ := id pl2.isList
  simp only at hc hd hc2 hd2
  subst hc hd hc2 hd2
  have l1 := r.length
  have l2 := r2.length
  refine concat_meets ⟨_, ho, rfl⟩ ⟨_, ho2, rfl⟩ noFill_list_add seq_list_add PySem.F.slot_list_add PySem.F.entry_list_add (PySem.F.args_list_add_2 _ _) (list_addW l b its.toArray its2.toArray n n2 dd dd2 sl sl2 (by rw [List.size_toArray, List.size_toArray]; omega)) ⟨ho, ho2, ?_⟩
  have ea : its.toArray ++ its2.toArray = (its ++ its2).toArray := by simp
  rw [ea]
  exact ⟨.ref _, _, I.lnew (t' := s.toks) (r.append r2) (by rw [List.length_append]; omega), rfl, q _ I.fresh⟩

def rRepQ (K : PySem.W.Frag) : R2 := fun x y H Q => ∃ l k xs, x = .ref l ∧ y = .int k ∧ SqL K H l xs ∧ -(2 ^ 63) ≤ k ∧ k < 2 ^ 63 ∧ xs.length * k.toNat ≤ sizeLine ∧
  ∀ p, H p = none → Q (.ref p) (upd H p (.lst (List.replicate k.toNat xs).flatten))
theorem op_repQ : OpR X (binaryOp .Mult) (rRepQ X.K) := by
  intro pins s σ H x y v u Q I rx ry h
  obtain ⟨l, k, xs, rfl, rfl, hH, h1, h2, hz, q⟩ := h
  cases rx
  obtain ⟨t, rfl⟩ := ry
  obtain ⟨its, r, pl, _⟩ := I.list hH
  obtain ⟨⟨cls, d, data, sl⟩, ho, hcl, n, hd⟩ := id pl.isList
  simp only at hcl hd
  subst hcl hd
  have l1 := r.length
  have es := sizeLine_eq
  have hz' : its.toArray.size * k.toNat ≤ 2 ^ 24 := by rw [List.size_toArray, ← l1]; omega
  refine wpAny_binaryOp_repeat_ref (T := "list") (U := "int") (by decide) ⟨_, ho, rfl⟩ (fun s' => typeIs_int s' k t) noFill_list_mul F.fills_int_mul F.slot_int_rmul repeat_list F.slot_int_index.lookup
    (call_meets F.slot_int_rmul (typeIs_int s k t) F.entry_int_rmul (F.args_int_rmul_2 _ _) (lm_int_rmul_list_any k t l its.toArray n d sl)
      ⟨ho, rfl, ⟨_, ho, rfl⟩, call_meets F.slot_list_mul ⟨_, ho, rfl⟩ F.entry_list_mul (F.args_list_mul_2 _ _)
        (lm_list_mul_any l its.toArray n d sl k t (by simp [Builtin.List.listFitsIndex]; omega) (by omega) (by simp [Builtin.List.listTooLong, sizeLine]; simp at hz'; omega))
        ⟨ho, ?_⟩⟩)
  rw [listMul_foldl_if]
  exact ⟨.ref _, _, I.lnew (t' := s.toks) (by simpa using r.rep k.toNat) (by rw [len_rep, Nat.mul_comm]; exact hz), rfl, q _ I.fresh⟩

theorem op_mulB : OpR X (binaryOp .Mult) (rI IntMulOk fun i j => .int (i * j)) := opI fun _ _ _ _ _ _ _ hc q => mul_int q hc
def CDivB (_i j : Int) : Prop := 0 < j ∧ j.natAbs.log2 < 9000
theorem op_fdivB : OpR X (binaryOp .FloorDiv) (rI CDivB fun i j => .int (i / j)) := opI fun i j _ _ _ _ _ hc q => by
  have h0 : j ≠ 0 := by have := hc.1; omega
  refine floordiv_int h0 ?_ (.inl (PyProof.noPylong_of_log2 hc.2))
  rw [Int.fdiv_eq_ediv_of_nonneg i (by have := hc.1; omega)]
  exact q

/-! ### == of data -/
mutual
def toPy : Dm → PyData
  | .non => .none
  | .bl b => .bool b
  | .int i => .int i
  | .str x => .str x
  | .lst ds => .list (toPys ds)
  | .tup ds => .tuple (toPys ds)
def toPys : List Dm → List PyData
  | [] => []
  | d :: ds => toPy d :: toPys ds
end
mutual
theorem reads_of {pins : List (Addr × Obj)} {σ : L2.St} {H : Hp} {s : Shared} (I : Inv X pins σ H s) : ∀ {d : Dm} {v : V} {u : Value}, Rep X.K H d v → RelV v u → ∃ as, Reads s.heap u (toPy d) as
  | .non, v, u, h, r => by unfold Rep at h; subst h; cases r; exact ⟨_, .none⟩
  | .bl b, v, u, h, r => by unfold Rep at h; subst h; cases r; exact ⟨_, .bool b⟩
  | .int i, v, u, h, r => by unfold Rep at h; subst h; obtain ⟨t, rfl⟩ := r; exact ⟨_, .int i t⟩
  | .str x, v, u, h, r => by unfold Rep at h; subst h; obtain ⟨t, rfl⟩ := r; exact ⟨_, .str x t⟩
  | .lst ds, v, u, h, r => by
    unfold Rep at h
    obtain ⟨a, xs, rfl, q, rr⟩ := h
    cases r
    obtain ⟨its, rv, pl, _⟩ := I.list q
    obtain ⟨o, ho, hc, n, hd⟩ := pl.isList
    obtain ⟨as, ra⟩ := readsAll_of I rr rv
    exact ⟨_, .list ho hc hd (by simpa using ra)⟩
  | .tup ds, v, u, h, r => by
    unfold Rep at h
    obtain ⟨a, xs, rfl, q, rr⟩ := h
    cases r
    obtain ⟨its, rv, pl, _⟩ := I.tuple q
    obtain ⟨o, ho, hc, n, hd⟩ := pl
    obtain ⟨as, ra⟩ := readsAll_of I rr rv
    exact ⟨_, .tuple ho hc hd (by simpa using ra)⟩
theorem readsAll_of {pins : List (Addr × Obj)} {σ : L2.St} {H : Hp} {s : Shared} (I : Inv X pins σ H s) : ∀ {ds : List Dm} {xs : List V} {us : List Value}, Reps X.K H ds xs → Vals xs us → ∃ as, ReadsAll s.heap us (toPys ds) as
  | [], xs, us, h, r => by unfold Reps at h; subst h; cases r; exact ⟨_, .nil⟩
  | d :: ds, xs, us, h, r => by
    unfold Reps at h
    obtain ⟨v, t, rfl, h1, h2⟩ := h
    cases r with
    | cons r1 r2 =>
      obtain ⟨as, ra⟩ := reads_of I h1 r1
      obtain ⟨bs, rb⟩ := readsAll_of I h2 r2
      exact ⟨_, .cons ra rb⟩
end
def okEq (d : Dm) : Bool := PySem.SeqAt.shaped (toPy d)
def eqD (a b : Dm) : Bool := PyData.eqv (toPy a) (toPy b)
def rEqD (K : PySem.W.Frag) (neg : Bool) : R2 := fun x y H Q => ∃ a b, Rep K H a x ∧ Rep K H b y ∧ okEq a = true ∧ okEq b = true ∧ Q (.bl (if neg then !eqD a b else eqD a b)) H
theorem op_eqD (hu : X.A.units + 64 < cLine) : OpR X (compareOp .Eq) (rEqD X.K false) := by
  intro pins s σ H x y v u Q I rx ry h
  obtain ⟨a, b, ra, rb, ha, hb, q⟩ := h
  obtain ⟨as, Ra⟩ := reads_of I ra rx
  obtain ⟨bs, Rb⟩ := reads_of I rb ry
  exact eq_dataH Ra Rb ha hb hu ⟨.bl _, H, I, rfl, q⟩
theorem op_neD (hu : X.A.units + 64 < cLine) : OpR X (compareOp .NotEq) (rEqD X.K true) := by
  intro pins s σ H x y v u Q I rx ry h
  obtain ⟨a, b, ra, rb, ha, hb, q⟩ := h
  obtain ⟨as, Ra⟩ := reads_of I ra rx
  obtain ⟨bs, Rb⟩ := reads_of I rb ry
  exact ne_dataH Ra Rb ha hb hu ⟨.bl _, H, I, rfl, q⟩

/-! ### isinstance -/
def Dm.ty : Dm → String
  | .non => "NoneType" | .bl _ => "bool" | .int _ => "int" | .str _ => "str" | .lst _ => "list" | .tup _ => "tuple"
/-- is a datum of that type of the built-in class c -/
def isTy (d : Dm) (c : String) : Bool := d.ty == c || (d.ty == "bool" && c == "int")
def rIsi (K : PySem.W.Frag) : List V → Hp → VK → Prop := fun xs H Q => ∃ x d c, xs = [x, .ty c] ∧ Rep K H d x ∧ (c = "int" ∨ c = "bool" ∨ c = "str" ∨ c = "list" ∨ c = "tuple") ∧ Q (.bl (isTy d c)) H
theorem kit_of {K : PySem.W.Frag} (d : Dm) {c : String} (hc : c = "int" ∨ c = "bool" ∨ c = "str" ∨ c = "list" ∨ c = "tuple") : PySem.W.kitOne K (.type d.ty) (.type c) = some (isTy d c) := by
  rcases hc with rfl | rfl | rfl | rfl | rfl <;> cases d <;> kernel_rfl
theorem call_isi : CallR X (.builtin "isinstance") (rIsi X.K) := by
  intro pins s σ H xs us Q I r h
  obtain ⟨x, d, c, rfl, rx, hc, q⟩ := h
  obtain ⟨u, w', rfl, r1, r2⟩ := vals2 r
  cases (show w' = Value.type c from r2)
  have e : PySem.W.kitOne X.K (.type d.ty) (.type c) = some (isTy d c) := kit_of d hc
  have fin : ∀ tk, EP X pins σ Q (.bool (isTy d c)) { s with toks := tk } := fun tk => ⟨.bl _, H, I.tok _, rfl, q⟩
  cases d with
  | non => unfold Rep at rx; subst rx; exact isinst_ok I r1 .non e fin
  | bl b => unfold Rep at rx; subst rx; exact isinst_ok I r1 (.bl b) e fin
  | int i => unfold Rep at rx; subst rx; exact isinst_ok I r1 (.int i) e fin
  | str z => unfold Rep at rx; subst rx; exact isinst_ok I r1 (.str z) e fin
  | lst ds =>
    unfold Rep at rx
    obtain ⟨a, xs, rfl, q', _⟩ := rx
    cases (show u = Value.ref a from r1)
    obtain ⟨its, _, pl, _⟩ := I.list q'
    obtain ⟨o, h1, h2, _⟩ := pl.isList
    exact PySem.W.kia_one PySem.W.kitx_list I.kIn ⟨o, h1, h2⟩ e (fun z => nomatch z) fin
  | tup ds =>
    unfold Rep at rx
    obtain ⟨a, xs, rfl, q', _⟩ := rx
    cases (show u = Value.ref a from r1)
    obtain ⟨its, _, p, _⟩ := I.tuple q'
    obtain ⟨o, h1, h2, _⟩ := p
    exact PySem.W.kia_one PySem.W.kitx_tuple I.kIn ⟨o, h1, h2⟩ e (fun z => nomatch z) fin

/-! ### sum of a list of ints -/
def rSum (K : PySem.W.Frag) : List V → Hp → VK → Prop := fun xs H Q => ∃ (p : Addr) (ns : List Int), xs = [.ref p] ∧ SqL K H p (ns.map V.int) ∧ Q (.int ns.sum) H
theorem call_sum (hc : X.calm = true) : CallR X (.builtin "sum") (rSum X.K) := by
  intro pins s σ H xs us Q I r h
  obtain ⟨p, ns, rfl, hq, q⟩ := h
  obtain ⟨u, rfl, rx⟩ := vals1 r
  cases rx
  obtain ⟨its, rv, pl, _⟩ := I.list hq
  have hi : IntsAre its ns := intsAre_of rv
  obtain ⟨xs, e⟩ := (PySem.AllInts.items (PyProof.Rows.IntsAre.allInts hi))
  have hl := pl.isList
  rw [e] at hl
  refine sum_intListG (I.ok.hd hc) hl fun h' tk t' hk => ?_
  refine ⟨.int ns.sum, H, I.kept hk, ⟨t', ?_⟩, q⟩
  rw [preSum_eq, List.take_of_length_le (by simp)]
  have e2 := hi.numsOf
  have e3 : its = (intItems xs).toList := by rw [← e]
  rw [e3, nums_intItems] at e2
  rw [e2]
end
end BF
set_option Elab.async false
set_option linter.all false
set_option maxRecDepth 100000
set_option maxHeartbeats 4000000
namespace BF
open PySem PySem.Spec L2

/-! ### records that turn, and a new object -/
theorem turnNew {X : Cx} {pins : List (Addr × Obj)} {σ : L2.St} {H : Hp} {s : Shared} {h' : Heap} {t' : Nat} {ch : List Addr} {T : Addr} {o : HO} (I : Inv X pins σ H s) (hf : ∀ b ∈ ch, FpOk X pins H b)
    (k : ∀ b ob, b ∉ ch → s.heap.get? b = some ob → h'.get? b = some ob) (hT : s.heap.objs.size ≤ T) (new : ObjOk X.prog X.w (upd H T o) h' T o) : Inv X pins σ (upd H T o) { s with heap := h', toks := t' } := by
  have hn : H T = none := I.hok.fresh hT
  have nT : ∀ b ob, s.heap.get? b = some ob → b ≠ T := fun b ob e => Nat.ne_of_lt (Nat.lt_of_lt_of_le (Heap.lt_size e) hT)
  have nch : ∀ b u, H b = some u → b ∉ ch := fun b u e z => by rw [(hf b z).1] at e; cases e
  refine I.step (g' := s.gens) (d' := s.drawn) (ch := ch) (fun b hb => ?_) (fun b ob _ _ hc e _ => k b ob hc e) (fun b ob _ _ hc e _ => ⟨ob.slots, k b ob hc e⟩) (fun b ob _ e n => by rw [upd_ne (nT b ob e)]; exact n)
    (fun b ob hc e => ⟨ob, k b ob hc e⟩) (fun b xs e => by rw [upd_ne (ne_of_none e hn)]; exact e) (fun b ob u e => by rw [upd_ne (ne_of_none e hn)]; exact e) (fun b ps e => ⟨#[], by rw [upd_ne (ne_of_none e hn), e]; simp⟩) (fun m hm => ?_) (fun b u e => ?_) I.bare
  · obtain ⟨_, f1, _, f3, f4, f5⟩ := hf b hb
    exact ⟨f3, f1, f4, f5⟩
  · obtain ⟨ob, es, ep, ho, r⟩ := hm
    exact ⟨ob, es, ep, k _ ob (fun z => (hf _ z).2.1 rfl) ho, r⟩
  · by_cases hb : b = T
    · subst hb; rw [upd_same] at e; cases e; exact new
    · rw [upd_ne hb] at e
      refine (I.hok b u e).stay (fun c v hc q => k c v ?_ q) (fun c q => by rw [upd_ne (ne_of_none q hn)]; exact q) fun c xs q => by rw [upd_ne (ne_of_none q hn)]; exact q
      rcases hc with z | z
      · rw [z]; exact nch b u e
      · exact nch c _ z

/-! ### enumerate -/
def Ite (K : PySem.W.Frag) (a : Addr) : It :=
  ⟨fun i H => ∃ xs x, SqL K H a xs ∧ xs[i]? = some x, fun i H x H' => ∃ t, H t = none ∧ x = .ref t ∧ ∃ y, H' = upd H t (.tup [.int i, y]) ∧ ∀ xs, SqL K H a xs → xs[i]? = some y, fun i H => ∃ xs, SqL K H a xs ∧ xs.length ≤ i⟩
theorem turn_enum {P : Program} {w : World} {K : PySem.W.Frag} {elts : List Expr} {x1 : Nat} {tp : Pos} (a e it : Addr) (hne : e ≠ it) :
    Turn P w K (.Tuple elts x1 tp) (Ite K a) [e, it] e (fun i h => (∃ old, IsEnum h e it i old) ∧ h.IsListIter it a i) where
  mem := by simp
  obj := fun i h st b hb => by
    obtain ⟨⟨old, he⟩, hit⟩ := st
    rcases List.mem_cons.mp hb with rfl | hb
    · exact ⟨_, he, fun v z => by
        have z' : Data.fields _ = Data.cell v := z
        cases z'⟩
    · have eb : b = it := by simpa using hb
      subst eb
      obtain ⟨o, q, c, d⟩ := hit
      exact ⟨o, q, fun v z => by rw [d] at z; cases z⟩
  keep := fun i h h' st k => ⟨let ⟨old, he⟩ := st.1; ⟨old, k e (by simp) _ he⟩, st.2.at fun o q => k it (by simp) o q⟩
  item := by
    intro X hP hw hK hc i pins s σ H E I hf st hg
    subst hP hw hK
    obtain ⟨⟨old, he⟩, hit⟩ := st
    obtain ⟨xs, x, hq, hx⟩ := hg
    obtain ⟨its, rv, p, hz⟩ := I.list hq
    obtain ⟨u, hu, ru⟩ := rv.get hx
    refine wpAny_pyNext_enum_item he hit p.isList (x := u) (by simpa using hu) hne fun h' ho hit' hT hsz hk => ?_
    refine ⟨_, rfl, wpAny_letOwnedTupleGo_enum ho fun h'' he'' hs'' => ?_⟩
    have helt : e < s.heap.objs.size := Heap.lt_size he
    have hT2 : h''.get? s.heap.objs.size = some { cls := .type "tuple", data := .seq #[.int i s.toks, u] } := (hs''.2 _ (Nat.ne_of_gt helt)).trans hT
    refine ⟨.ref s.heap.objs.size, upd H s.heap.objs.size (.tup [.int i, x]), turnNew (s := s) (t' := s.toks + 1) (h' := h'') (ch := [e, it]) I hf (fun b ob hb q => ?_) (Nat.le_refl _) ?_, rfl, ⟨_, I.hok.fresh (Nat.le_refl _), rfl, x, rfl, fun ys hy => by rw [I.list_inj hy hq]; exact hx⟩, ?_, fun b hb => ?_⟩
    · have h1 : b ≠ e := fun z => hb (by simp [z])
      have h2 : b ≠ it := fun z => hb (by simp [z])
      exact (hs''.2 b h1).trans (hk b ob h1 h2 q)
    · exact ⟨by show 2 ≤ sizeLine; rw [sizeLine_eq]; decide, [.int i s.toks, u], .cons ⟨_, rfl⟩ (.cons ru .nil), ⟨_, hT2, rfl, _, rfl⟩⟩
    · refine ⟨⟨u, ?_⟩, hit'.at fun o q => (hs''.2 it hne.symm).trans q⟩
      have ei : ((i + 1 : Nat) : Int) = (i : Int) + 1 := by push_cast; rfl
      rw [ei]; exact he''
    · have lt : b < s.heap.objs.size := by
        rcases List.mem_cons.mp hb with rfl | hb
        · exact helt
        · have eb : b = it := by simpa using hb
          subst eb
          obtain ⟨o, q, _⟩ := hit
          exact Heap.lt_size q
      rw [upd_ne (Nat.ne_of_lt lt)]
      exact (hf b hb).1
  done := by
    intro X hP hw hK hc i pins s σ H E I hf st hg
    subst hP hw hK
    obtain ⟨⟨old, he⟩, hit⟩ := st
    obtain ⟨xs, hq, hx⟩ := hg
    obtain ⟨its, rv, p, hz⟩ := I.list hq
    have hl := rv.length
    obtain ⟨f0, f1, f2, f3, f4, f5⟩ := hf it (by simp)
    exact wpAny_pyNext_enum_end (I.ok.hd hc) he hit p.isList (by simp; omega) fun h' eb => ⟨rfl, I.turned (t' := s.toks) (fun b o hb e => eb b o hb e) f0 f1 f3 f4 f5⟩
  self := fun _ _ _ _ _ st h => let ⟨_, he⟩ := st.1; wpAny_pyIter_enum he h

def iEnum (K : PySem.W.Frag) (ta : TA) : TI := fun σ H R => ta σ H fun vs H1 => ∃ a, vs = [.ref a] ∧ (∃ xs, SqL K H1 a xs) ∧ R (Ite K a) H1
theorem pi_enum {X : Cx} {a : Expr} {ta : TA} {p pos : Pos} {elts : List Expr} {x1 : Nat} {tp : Pos} (hg : Gl X "enumerate") (hm : X.mg "enumerate" = none) (hb : bootBuiltins "enumerate" = some (.type "enumerate")) (ha : PA X [a] ta) (hs : starEach [a] X.env = [(false, eval a X.env)] := by rfl) :
    PI X (.Tuple elts x1 tp) (.Call (.Name "enumerate" p) [a] [] pos) (iEnum X.K ta) := by
  intro pins s σ H R I h
  refine PyProof.Rows.Call_ (ld_blt I hg hm hb (PyProof.Rows.callWith_type1 (thn (ha pos pins s σ H _ I h) fun us s1 ⟨vs, H1, I1, r1, q1⟩ => ?_) hs rfl))
  obtain ⟨l, e, ⟨xs, hq⟩, q⟩ := q1
  subst e
  obtain ⟨u, rfl, ru⟩ := vals1 r1
  cases ru
  obtain ⟨its, rv, pl, hz⟩ := I1.list hq
  refine call_enumerate_list pl.isList fun h' he hit hsz hk => ?_
  refine wpAny_pyIter_enum he ?_
  have I2 : Inv X pins σ H1 { s1 with heap := h' } := I1.kept (t' := s1.toks) hk
  refine ⟨s1.heap.objs.size + 1, [s1.heap.objs.size + 1, s1.heap.objs.size], _, _, H1, rfl, I2, turn_enum l _ s1.heap.objs.size (Nat.succ_ne_self _), ⟨⟨_, he⟩, hit⟩, fun b hb => ?_, q⟩
  rcases List.mem_cons.mp hb with rfl | hb
  · exact I1.fpOk (Nat.le_succ _) (I1.hok.fresh (Nat.le_succ _))
  · have eb : b = s1.heap.objs.size := by simpa using hb
    subst eb
    exact I1.fpOk (Nat.le_refl _) (I1.hok.fresh (Nat.le_refl _))

/-! ### a comprehension's block -/
def clOf (cells : List (Str × Addr)) : List (Str × NameKind) → List (Str × Addr) → List (Str × Addr)
  | [], acc => acc
  | (n, k) :: r, acc => if k = .free then clOf cells r ((n, (cells.lookup n).getD 0) :: acc) else clOf cells r acc
theorem closure_aux {env : Env} : ∀ (names : List (Str × NameKind)) (acc : List (Str × Addr)), (∀ x ∈ names, x.2 = .free → ∃ c, env.cells.lookup x.1 = some c) →
    (forIn names acc fun (x : Str × NameKind) (cs : List (Str × Addr)) => if (x.2 == NameKind.free) = true then (do let a ← cellOf env x.1; pure (ForInStep.yield ((x.1, a) :: cs))) else pure (ForInStep.yield cs)) = (pure (clOf env.cells names acc) : Sem (List (Str × Addr)))
  | [], acc, _ => rfl
  | (n, k) :: r, acc, h => by
    rw [List.forIn_cons]
    have ih := fun acc => closure_aux (env := env) r acc fun x hx => h x (List.mem_cons_of_mem _ hx)
    by_cases hk : k = .free
    · subst hk
      obtain ⟨c, hc⟩ := h (n, .free) List.mem_cons_self rfl
      have hc' : env.cells.lookup n = some c := hc
      show ((if true = true then (do let a ← cellOf env n; pure (ForInStep.yield ((n, a) :: acc))) else pure (ForInStep.yield acc)) >>= _) = _
      rw [if_pos rfl]
      unfold cellOf
      rw [hc']
      show (pure (ForInStep.yield ((n, c) :: acc)) >>= _) = _
      rw [pure_bind]
      show _ = (pure (clOf env.cells ((n, .free) :: r) acc) : Sem _)
      rw [clOf, if_pos rfl, hc', ← ih]
      rfl
    · have hb : (k == NameKind.free) = false := by simpa using hk
      show ((if (k == NameKind.free) = true then _ else pure (ForInStep.yield acc)) >>= _) = _
      rw [if_neg (by rw [hb]; exact Bool.false_ne_true), pure_bind]
      show _ = (pure (clOf env.cells ((n, k) :: r) acc) : Sem _)
      rw [clOf, if_neg hk, ← ih]
theorem closure_of {scope : Scope} {env : Env} (h : ∀ x ∈ scope.names, x.2 = .free → ∃ c, env.cells.lookup x.1 = some c) : closureFor scope env = pure (clOf env.cells scope.names []) := by
  have := closure_aux (env := env) scope.names [] h
  unfold closureFor
  rw [← this]
  first
    | rfl
    | simp
theorem clOf_sound {cells : List (Str × Addr)} : ∀ {names : List (Str × NameKind)} {acc : List (Str × Addr)}, (∀ x ∈ names, x.2 = .free → ∃ c, cells.lookup x.1 = some c) → (∀ n c, acc.lookup n = some c → cells.lookup n = some c) → ∀ n c, (clOf cells names acc).lookup n = some c → cells.lookup n = some c
  | [], acc, _, ha, n, c, e => ha n c e
  | (m, k) :: r, acc, h, ha, n, c, e => by
    rw [clOf] at e
    have hr : ∀ x ∈ r, x.2 = .free → ∃ c, cells.lookup x.1 = some c := fun x hx => h x (List.mem_cons_of_mem _ hx)
    by_cases hk : k = .free
    · rw [if_pos hk] at e
      subst hk
      obtain ⟨d, hd⟩ := h (m, .free) List.mem_cons_self rfl
      refine clOf_sound hr (fun n' c' e' => ?_) n c e
      rw [List.lookup_cons] at e'
      by_cases hm : (n' == m) = true
      · rw [hm] at e'
        have hd' : cells.lookup m = some d := hd
        rw [hd'] at e'
        have : n' = m := by simpa using hm
        rw [this, hd']
        exact e'
      · have hm' : (n' == m) = false := by simpa using hm
        rw [hm'] at e'
        exact ha n' c' e'
    · rw [if_neg hk] at e
      exact clOf_sound hr ha n c e
theorem clOf_has {cells : List (Str × Addr)} : ∀ {names : List (Str × NameKind)} {acc : List (Str × Addr)} (n : Str), ((n, NameKind.free) ∈ names ∨ ∃ c, acc.lookup n = some c) → ∃ c, (clOf cells names acc).lookup n = some c
  | [], acc, n, h => by
    rcases h with h | h
    · cases h
    · exact h
  | (m, k) :: r, acc, n, h => by
    rw [clOf]
    by_cases hk : k = .free
    · rw [if_pos hk]
      refine clOf_has n ?_
      rcases h with h | ⟨c, h⟩
      · rcases List.mem_cons.mp h with e | h
        · refine .inr ⟨(cells.lookup m).getD 0, ?_⟩
          have e1 : n = m := by injection e
          rw [List.lookup_cons, e1]
          simp
        · exact .inl h
      · refine .inr ?_
        rw [List.lookup_cons]
        cases hm : (n == m) with
        | true => exact ⟨_, rfl⟩
        | false => exact ⟨c, h⟩
    · rw [if_neg hk]
      refine clOf_has n ?_
      rcases h with h | h
      · rcases List.mem_cons.mp h with e | h
        · injection e with _ e2
          exact absurd e2.symm hk
        · exact .inl h
      · exact .inr h
theorem lookup_relabel {env : Env} {x : Str} : ∀ {names : List (Str × NameKind)} {k : NameKind},
    (names.map fun (n, k) => if (k == NameKind.free && env.scope.kind == .function && env.kindOf n == some .cell) then (n, NameKind.cell) else (n, k)).lookup x = some k →
      ∃ k0, names.lookup x = some k0 ∧ (k = k0 ∨ (k0 = .free ∧ k = .cell))
  | [], k, h => by simp at h
  | (n, k') :: r, k, h => by
    rw [List.map_cons] at h
    by_cases hc : (k' == NameKind.free && env.scope.kind == .function && env.kindOf n == some .cell) = true
    · have e : (match ((n, k') : Str × NameKind) with | (n, k) => if (k == NameKind.free && env.scope.kind == .function && env.kindOf n == some .cell) = true then (n, NameKind.cell) else (n, k)) = (n, NameKind.cell) := if_pos hc
      rw [e, List.lookup_cons] at h
      rw [List.lookup_cons]
      cases hx : (x == n) with
      | true =>
        rw [hx] at h
        have hk : k' = .free := by
          rw [Bool.and_eq_true, Bool.and_eq_true] at hc
          simpa using hc.1.1
        exact ⟨k', rfl, .inr ⟨hk, (Option.some.inj h).symm⟩⟩
      | false => rw [hx] at h; exact lookup_relabel h
    · have e : (match ((n, k') : Str × NameKind) with | (n, k) => if (k == NameKind.free && env.scope.kind == .function && env.kindOf n == some .cell) = true then (n, NameKind.cell) else (n, k)) = (n, k') := if_neg hc
      rw [e, List.lookup_cons] at h
      rw [List.lookup_cons]
      cases hx : (x == n) with
      | true => rw [hx] at h; exact ⟨k', rfl, .inl (Option.some.inj h).symm⟩
      | false => rw [hx] at h; exact lookup_relabel h

/-- the names of the block N', where they stand outside ix -/
structure CompOk (N : List Str) (sc scope : Scope) (N' : List Str) (ix : List (Option Nat)) : Prop where
  cell : ∀ y ∈ scope.names, y.2 ≠ .cell
  kind : scope.kind = .function
  loc : ∀ y ∈ scope.names, y.2 = .local → scope.names.lookup y.1 = some .local
  fre : ∀ y ∈ scope.names, y.2 = .free → sc.names.lookup y.1 = some .cell ∨ sc.names.lookup y.1 = some .free
  len : N'.length = ix.length
  at_ : ∀ p ∈ N'.zip ix, ∀ i, p.2 = some i → N[i]? = some p.1 ∧ scope.names.lookup p.1 ≠ some .local
  nd : N'.Nodup
def sub {α : Type} (ix : List (Option Nat)) (σ : List (Option α)) : List (Option α) := ix.map fun o => match o with
  | some i => (σ[i]?).join
  | none => none
/-- the context of the block -/
def Xc (X : Cx) (scope : Scope) (C : Addr) (s : Shared) (H : Hp) (fp : List Addr) (N' : List Str) (E : Value → Shared → Prop) : Cx :=
  { X with N := N', s₀ := s, H₀ := H, env := compEnvC scope (clOf X.env.cells scope.names []) C X.env, outer := X.stack, stack := X.stack, ex := fp, fn := fun _ => false, xe := E }
theorem mem_of_lookup {x : Str} {k : NameKind} : ∀ {l : List (Str × NameKind)}, l.lookup x = some k → (x, k) ∈ l
  | [], h => by simp at h
  | (n, k') :: r, h => by
    rw [List.lookup_cons] at h
    cases hx : (x == n) with
    | true =>
      rw [hx] at h
      have : x = n := by simpa using hx
      rw [this, ← Option.some.inj h]
      exact List.mem_cons_self
    | false => rw [hx] at h; exact List.mem_cons_of_mem _ (mem_of_lookup h)

theorem inv_comp {X : Cx} {pins : List (Addr × Obj)} {σ : L2.St} {H : Hp} {s : Shared} {h₁ : Heap} {t : Nat} {scope : Scope} {fp : List Addr} {N' : List Str} {ix : List (Option Nat)} {E : Value → Shared → Prop} (I : Inv X pins σ H s)
    (hf : ∀ b ∈ fp, FpOk X pins H b) (hfl : ∀ b ∈ fp, b < s.heap.objs.size) (ck : CompOk X.N X.env.scope scope N' ix) (hns : ∃ m, h₁.Ns s.heap.objs.size m) (hk : ∀ b o, s.heap.get? b = some o → h₁.get? b = some o) :
    Inv (Xc X scope s.heap.objs.size s H fp N' E) pins (sub ix σ) H { s with heap := h₁, toks := t } := by
  have kf : ∀ x : Str, X.env.kindOf x = X.env.scope.names.lookup x := fun _ => rfl
  have hclos : ∀ x ∈ scope.names, x.2 = .free → ∃ c, X.env.cells.lookup x.1 = some c := fun x hx hfr => I.ok.has x.1 (ck.fre x hx hfr)
  have clS : ∀ n c, (clOf X.env.cells scope.names []).lookup n = some c → X.env.cells.lookup n = some c := clOf_sound hclos (fun n c e => by simp at e)
  have kd : ∀ x k, (relabel scope X.env).names.lookup x = some k → (k = .cell ∨ k = .free) → (x, NameKind.free) ∈ scope.names := fun x k e hk => by
    obtain ⟨k0, e0, h0⟩ := lookup_relabel e
    have m0 := mem_of_lookup e0
    rcases h0 with rfl | ⟨rfl, _⟩
    · rcases hk with rfl | rfl
      · exact absurd rfl (ck.cell _ m0)
      · exact m0
    · exact m0
  have neL : ∀ b, b ∈ frs X.stack → b < s.heap.objs.size := fun b hb => by
    have := I.stack.mem hb
    obtain ⟨_, o, ho, _⟩ := this
    exact Heap.lt_size ho
  refine ⟨?_, rfl, I.bare, Un.kept hk, ?_, ?_, I.hok.fresh (Nat.le_refl _), ?_, ?_, I.hok.kept hk, ?_⟩
  · refine ⟨I.ok.mod, ck.kind, I.ok.glob, I.ok.blt, Nat.le_refl _, fun x y c e1 e2 => I.ok.inj x y c (clS x c e1) (clS y c e2), fun x hx => ?_, fun x c h => (by cases h), I.ok.hd, I.ok.frames, .inl rfl, fun b hb => ?_, fun b o e => I.bs b o e, Nat.le_trans I.ok.bsz I.sz, fun b o e hb => ?_, fun b hb z => ?_, I.stack, fun b hb => I.stkFree b hb⟩
    · rcases hx with hx | hx
      · exact clOf_has x (.inl (kd x _ hx (.inl rfl)))
      · exact clOf_has x (.inl (kd x _ hx (.inr rfl)))
    · exact ⟨Nat.ne_of_lt (hfl b hb), fun x c e => (hf b hb).2.2.2.2.1 x c (clS x c e)⟩
    · rcases (hf b hb).2.2.2.1 with z | z
      · exact I.ok.noex b o e z
      · exact absurd (Nat.lt_of_lt_of_le (Heap.lt_size e) (Nat.le_trans I.ok.bsz z)) (Nat.lt_irrefl _)
    · rcases List.mem_cons.mp (I.stkSub b z) with z | z
      · exact (hf b hb).2.1 z
      · exact (hf b hb).2.2.1 z
  · obtain ⟨m0, hn0⟩ := hns
    refine ⟨m0, hn0, fun j x v e1 e2 e3 => ?_⟩
    have e1' : N'[j]? = some x := e1
    have hj : j < ix.length := by rw [← ck.len]; exact (List.getElem?_eq_some_iff.mp e1').1
    have e2' : ((ix[j]?).map fun o => match o with | some i => (σ[i]?).join | none => none) = some (some v) := by
      unfold sub at e2
      rw [List.getElem?_map] at e2
      exact e2
    rw [List.getElem?_eq_getElem hj] at e2'
    cases ei : ix[j] with
    | none => rw [ei] at e2'; cases e2'
    | some i =>
      rw [ei] at e2'
      have e4 : σ[i]? = some (some v) := by
        have e5 : (σ[i]?).join = some v := Option.some.inj e2'
        cases q : σ[i]? with
        | none => rw [q] at e5; cases e5
        | some o => rw [q] at e5; exact congrArg some e5
      have mem : (x, some i) ∈ N'.zip ix := by
        rw [List.mem_iff_getElem?]
        refine ⟨j, ?_⟩
        rw [List.getElem?_zip_eq_some]
        exact ⟨e1', by rw [List.getElem?_eq_getElem hj, ei]⟩
      obtain ⟨a1, a2⟩ := ck.at_ _ mem i rfl
      have hfree : (x, NameKind.free) ∈ scope.names := by
        rcases e3 with e3 | e3 | e3
        · exfalso
          obtain ⟨k0, e0, h0⟩ := lookup_relabel (env := X.env) (show ((scope.names.map fun (n, k) => if (k == NameKind.free && X.env.scope.kind == .function && X.env.kindOf n == some .cell) then (n, NameKind.cell) else (n, k)).lookup x = some .local) from e3)
          rcases h0 with rfl | ⟨_, h⟩
          · exact a2 e0
          · cases h
        · exact kd x _ e3 (.inl rfl)
        · exact kd x _ e3 (.inr rfl)
      have hout := ck.fre _ hfree rfl
      obtain ⟨m, hn, hl⟩ := I.loc
      obtain ⟨u, r, l⟩ := hl i x v a1 e4 (.inr hout)
      refine ⟨u, r, .inr ⟨?_, ?_⟩⟩
      · rcases e3 with e3 | e3 | e3
        · exfalso
          obtain ⟨k0, e0, h0⟩ := lookup_relabel (env := X.env) (show ((scope.names.map fun (n, k) => if (k == NameKind.free && X.env.scope.kind == .function && X.env.kindOf n == some .cell) then (n, NameKind.cell) else (n, k)).lookup x = some .local) from e3)
          rcases h0 with rfl | ⟨_, h⟩
          · exact a2 e0
          · cases h
        · exact .inl e3
        · exact .inr e3
      · rcases l with ⟨l1, _⟩ | ⟨_, c, e, ⟨oc, hoc, hd⟩⟩
        · exfalso
          have l1' : X.env.scope.names.lookup x = some .local := l1
          rcases hout with h | h
          · have h' : X.env.scope.names.lookup x = some .cell := h
            rw [l1'] at h'; cases h'
          · have h' : X.env.scope.names.lookup x = some .free := h
            rw [l1'] at h'; cases h'
        · obtain ⟨c', e'⟩ := clOf_has (cells := X.env.cells) (names := scope.names) (acc := []) x (.inl hfree)
          have := clS x c' e'
          rw [e] at this
          obtain rfl := Option.some.inj this
          exact ⟨c, e', ⟨oc, hk _ _ hoc, hd⟩⟩
  · intro x c e
    obtain ⟨v, o, ho, hd⟩ := I.cell x c (clS x c e)
    exact ⟨v, o, hk _ _ ho, hd⟩
  · intro x c e
    exact I.freeC x c (clS x c e)
  · intro p hp
    obtain ⟨e, n, ne, nf, d⟩ := I.pin p hp
    refine ⟨hk _ _ e, n, Nat.ne_of_lt (Heap.lt_size e), fun z => ?_, d⟩
    rcases List.mem_cons.mp (I.stkSub p.1 z) with z | z
    · exact ne z
    · exact nf z
  · show (sub ix σ).length = N'.length
    unfold sub
    rw [List.length_map]
    exact ck.len.symm
end BF
set_option Elab.async false
set_option linter.all false
set_option maxRecDepth 100000
set_option maxHeartbeats 4000000
namespace BF
open PySem PySem.Spec L2

theorem compLoop_any {prog : Program} {w : World} {A : Around} {R : Result → Shared → Prop} {s : Shared} {elt target iter : Expr} {scope : Scope} {pos : Pos} {it acc : Value} {env : Env} (I : Nat → Shared → Prop)
    (turn : ∀ n s, I n s → wpAny (model prog w) A (pyNext it) (fun r s₁ => match r with
      | none => R (.ok .next) s₁
      | some v => wpAny (model prog w) A (letOwnedTupleGo target it v) (fun _ s₁' => wpAny (model prog w) A (assign target env v) (fun _ s₂ => wpAny (model prog w) A (eval elt env) (fun x s₃ =>
          wpAny (model prog w) A (call (.builtin "list.append") [acc, x]) (fun _ s₄ => ∃ m, m < n ∧ I m s₄) (notedBy (model prog w) A env fun e s' => R (.error e) s') s₃)
          (notedBy (model prog w) A env fun e s' => R (.error e) s') s₂) (notedBy (model prog w) A env fun e s' => R (.error e) s') s₁') (notedBy (model prog w) A env fun e s' => R (.error e) s') s₁) (notedBy (model prog w) A env fun e s' => R (.error e) s') s)
    (n : Nat) (h : I n s) :
    codeAny (model prog w) A (.compLoop (.ListComp elt [⟨target, iter, [], 0⟩] scope pos) 0 it acc env) R s := by
  refine codeAny_loop rfl I (fun n s hI => ?_) n h
  show wpAny _ _ ((compTurn (.ListComp elt [⟨target, iter, [], 0⟩] scope pos) 0 it acc env).onRaise (fun x => do noteFrame x env; theTreesLotGoes x)) _ _ s
  refine wpAny_noted ?_
  rw [compTurn_list1]
  refine wpAny_bind (wpAny_standAt (wpAny_bind (wpAny_mono (turn n s hI) (fun r s₁ h₁ => ?_) fun _ _ h' => h')))
  cases r with
  | none => exact wpAny_pure h₁
  | some v =>
    refine wpAny_bind (wpAny_mono h₁ (fun _ s₁' h₁' => ?_) fun _ _ h' => h')
    exact wpAny_bind (wpAny_mono h₁' (fun _ s₂ h₂ => wpAny_bind (wpAny_bind (wpAny_mono h₂ (fun x s₃ h₃ => wpAny_bind (wpAny_mono h₃
      (fun _ s₄ h₄ => wpAny_pure (wpAny_pure ⟨rfl, h₄⟩)) fun _ _ h' => h')) fun _ _ h' => h'))) fun _ _ h' => h')

section
variable {X : Cx} {pins : List (Addr × Obj)} {σ σ' : L2.St} {H H' : Hp} {s s' : Shared} {scope : Scope} {fp : List Addr} {N' : List Str} {ix : List (Option Nat)} {E : Value → Shared → Prop}
theorem fpOk_c {H2 : Hp} {b : Addr} (I : Inv X pins σ H s) (hfl : b < s.heap.objs.size) (hb : b ∈ fp) (hf : FpOk X pins H b) (hn : H2 b = none) (ck : CompOk X.N X.env.scope scope N' ix) : FpOk (Xc X scope s.heap.objs.size s H fp N' E) pins H2 b := by
  obtain ⟨f0, f1, f2, f3, f4, f5⟩ := hf
  have hclos : ∀ x ∈ scope.names, x.2 = .free → ∃ c, X.env.cells.lookup x.1 = some c := fun x hx hfr => I.ok.has x.1 (ck.fre x hx hfr)
  refine ⟨hn, Nat.ne_of_lt hfl, fun z => ?_, .inl hb, fun x c e => f4 x c (clOf_sound hclos (fun n c e => by simp at e) x c e), f5⟩
  rcases List.mem_cons.mp (I.stkSub b z) with z | z
  · exact f1 z
  · exact f2 z
theorem comp_back {pins' : List (Addr × Obj)} {h'' : Heap} (I : Inv X pins σ H s) (hf : ∀ b ∈ fp, FpOk X pins H b) (I' : Inv (Xc X scope s.heap.objs.size s H fp N' E) pins' σ' H' s') (sb : Heap.SameBut s.heap.objs.size s'.heap h'') : Inv X pins σ H' { s' with heap := h'' } := by
  have low : ∀ {b : Addr} {o : Obj}, s.heap.get? b = some o → b ≠ s.heap.objs.size := fun e => Nat.ne_of_lt (Heap.lt_size e)
  have u := I'.base
  have u' : Un (frs X.stack) fp H H' s.heap h'' := by
    refine ⟨fun b o e n h1 h2 => (sb.2 b (low e)).trans (u.keep b o e n h1 h2), fun b o e n h1 h2 => ?_, u.free, fun b o e h => ?_, u.tups, u.frzs, u.tbls⟩
    · obtain ⟨sl, q⟩ := u.slot b o e n h1 h2
      exact ⟨sl, (sb.2 b (low e)).trans q⟩
    · obtain ⟨o', q⟩ := u.there b o e h
      exact ⟨o', (sb.2 b (low e)).trans q⟩
  have hfree : H' s.heap.objs.size = none := I'.free
  refine I.call' (s' := { s' with heap := h'' }) (ch := fp) I'.os u' (fun b o e => ?_) I'.bare fun b hb => ?_
  · have nb : ∀ c u, H' c = some u → c ≠ s.heap.objs.size := fun c u e z => by rw [z, hfree] at e; cases e
    refine (I'.hok b o e).stay (fun c v hc q => (sb.2 c ?_).trans q) (fun _ q => q) fun _ _ q => q
    rcases hc with z | z
    · rw [z]; exact nb b o e
    · exact nb c _ z
  · obtain ⟨_, f1, _, f3, f4, f5⟩ := hf b hb
    exact ⟨f3, f1, f4, f5⟩
end

def tCompW (J : It) (g : TG) (te : TE) (ix : List (Option Nat)) (σ : L2.St) (H1 : Hp) (D : Addr) (Q : Hp → Prop) : Prop :=
  ∃ W : Nat → Nat → Hp → Prop, (∃ m, W 0 m (upd H1 D (.lst []))) ∧ ∀ i m H2, W i m H2 →
    (J.stop i H2 ∧ Q H2) ∨ (J.go i H2 ∧ ∀ x H3, J.yld i H2 x H3 → g x (sub ix σ) H3 fun σ4 H4 => (∀ (j : Nat) v, (sub ix σ)[j]? = some (some v) → σ4[j]? = some (some v)) ∧ te σ4 H4 fun y H5 => ∃ ys, H5 D = some (.lst ys) ∧ ys.length < sizeLine ∧ ∃ m', m' < m ∧ W (i + 1) m' (upd H5 D (.lst (ys ++ [y]))))
abbrev XF : Value → Shared → Prop := fun _ _ => False

theorem comp_block {X : Cx} {pins : List (Addr × Obj)} {σ : L2.St} {H : Hp} {s : Shared} {elt iter tg : Expr} {scope : Scope} {pos : Pos} {g : TG} {te : TE} {N' : List Str} {ix : List (Option Nat)} {RR : Value → Addr → Result → Shared → Prop} {E : Value → Shared → Prop} {it : Addr} {fp : List Addr} {tn : Nat → Heap → Prop} {J : It} {Q : Addr → Hp → Prop}
    (hc : X.calm = true) (ck : CompOk X.N X.env.scope scope N' ix) (hg : ∀ C s H fp, PG (Xc X scope C s H fp N' XF) tg g) (he : ∀ C s H fp, PE (Xc X scope C s H fp N' XF) elt te)
    (I : Inv X pins σ H s) (T : Turn X.prog X.w X.K tg J fp it tn) (st : tn 0 s.heap) (hf : ∀ b ∈ fp, FpOk X pins H b) (hR : ∀ D, H D = none → tCompW J g te ix σ H D (Q D))
    (hRR : ∀ D C s' H', FpOk X pins H' C → X.env.locals ≠ C → s'.os = s.os → (∃ m, s'.heap.Ns C m) → (∀ h'', Heap.SameBut C s'.heap h'' → Inv X pins σ H' { s' with heap := h'' }) → Q D H' → RR (.ref D) C (.ok .next) s') :
    wpAny (model X.prog X.w) X.A (newList []) (fun acc s₃ => wpAny (model X.prog X.w) X.A (newFunctionEnv scope X.env.globals (clOf X.env.cells scope.names []) [] X.env.qual none .none (some X.env)) (fun cenv s₄ =>
      codeAny (model X.prog X.w) X.A (.compStart (.ListComp elt [⟨tg, iter, [], 0⟩] scope pos) 0 (.ref it) acc { cenv with scope := relabel scope X.env }) (RR acc cenv.locals) s₄) E s₃) E s := by
  refine wpAny_newObj_type (wpAny_newFunctionEnv ck.cell (by intro y hy; simp at hy) (fun h₁ hns₁ hsb₁ => ?_) ck.kind)
  have I3 : Inv X pins σ (upd H s.heap.objs.size (.lst [])) { s with heap := s.heap.push { cls := .type "list", data := .seq ([] : List Value).toArray }, toks := s.toks } := I.lnew (its := []) (ys := []) .nil (by simp)
  have hfl : ∀ b ∈ fp, b < s.heap.objs.size := fun b hb => by
    obtain ⟨o, e, _⟩ := T.obj 0 _ st b hb
    exact Heap.lt_size e
  have hf3 : ∀ b ∈ fp, FpOk X pins (upd H s.heap.objs.size (.lst [])) b := fun b hb => by
    obtain ⟨f0, fr⟩ := hf b hb
    exact ⟨by rw [upd_ne (Nat.ne_of_lt (hfl b hb))]; exact f0, fr⟩
  obtain ⟨W, ⟨m0, w0⟩, turn⟩ := hR s.heap.objs.size I.fresh
  generalize eD : s.heap.objs.size = D at *
  have e3 : ({ s with heap := s.heap.push { cls := .type "list", data := .seq ([] : List Value).toArray }, toks := s.toks } : Shared) = { s with heap := s.heap.push { cls := .type "list", data := .seq ([] : List Value).toArray } } := rfl
  rw [e3] at I3
  generalize es3 : ({ s with heap := s.heap.push { cls := .type "list", data := .seq ([] : List Value).toArray } } : Shared) = s3 at *
  have os3 : s3.os = s.os := by rw [← es3]
  have hp3 : s3.heap = s.heap.push { cls := .type "list", data := .seq ([] : List Value).toArray } := by rw [← es3]
  have hfl3 : ∀ b ∈ fp, b < s3.heap.objs.size := fun b hb => by
    rw [hp3, Heap.size_push]; exact Nat.lt_succ_of_lt (by rw [eD]; exact hfl b hb)
  have hns : ∃ m, h₁.Ns s3.heap.objs.size m := ⟨_, hns₁⟩
  have hk : ∀ b o, s3.heap.get? b = some o → h₁.get? b = some o := fun b o e => hsb₁.extBut b o (Nat.ne_of_lt (Heap.lt_size e)) (Heap.get?_push_of_some _ e)
  have I4 : ∀ t, Inv (Xc X scope s3.heap.objs.size s3 (upd H D (.lst [])) fp N' XF) pins (sub ix σ) (upd H D (.lst [])) { s3 with heap := h₁, toks := t } := fun t => inv_comp I3 hf3 hfl3 ck hns hk
  have st4 : tn 0 h₁ := T.keep _ _ _ st fun b hb o e => hk b o (by rw [hp3]; exact Heap.get?_push_of_some _ e)
  have loop : ∀ s₄ : Shared, s₄ = { s3 with heap := h₁, toks := s3.toks + ([] : List (Str × Value)).length } →
      codeAny (model X.prog X.w) X.A (.compLoop (.ListComp elt [⟨tg, iter, [], 0⟩] scope pos) 0 (.ref it) (.ref D) (Xc X scope s3.heap.objs.size s3 (upd H D (.lst [])) fp N' XF).env) (RR (.ref D) s3.heap.objs.size) s₄ := by
    rintro s₄ rfl
    have stat : ∀ {H2 : Hp}, (∀ b ∈ fp, H2 b = none) → ∀ b ∈ fp, FpOk (Xc X scope s3.heap.objs.size s3 (upd H D (.lst [])) fp N' XF) pins H2 b := fun hn b hb => fpOk_c I3 (hfl3 b hb) hb (hf3 b hb) (hn b hb) ck
    refine compLoop_any (fun n s' => ∃ i H', Inv (Xc X scope s3.heap.objs.size s3 (upd H D (.lst [])) fp N' XF) pins (sub ix σ) H' s' ∧ tn i s'.heap ∧ (∀ b ∈ fp, H' b = none) ∧ W i n H') ?_ m0 ⟨0, _, I4 _, st4, fun b hb => (hf3 b hb).1, w0⟩
    rintro n s5 ⟨i, H5, I5, st5, fr5, w5⟩
    rcases turn i n H5 w5 with ⟨stop, qn⟩ | ⟨go, step⟩
    · refine thn (T.done (Xc X scope s3.heap.objs.size s3 (upd H D (.lst [])) fp N' XF) rfl rfl rfl hc i pins s5 _ H5 _ I5 (stat fr5) st5 stop) fun r s6 ⟨hr, I6⟩ => ?_
      subst hr
      obtain ⟨m6, hn6, _⟩ := I6.loc
      exact hRR D s3.heap.objs.size s6 H5 (I3.fpOk (Nat.le_refl _) I6.free) (Nat.ne_of_lt I3.lt) (I6.os.trans os3) ⟨m6, hn6⟩ (fun h'' sb => comp_back I3 hf3 I6 sb) qn
    · refine thn (T.item (Xc X scope s3.heap.objs.size s3 (upd H D (.lst [])) fp N' XF) rfl rfl rfl hc i pins s5 _ H5 _ I5 (stat fr5) st5 go) fun r s6 ⟨u, hr, h6⟩ => ?_
      subst hr
      refine thn h6 fun _ s7 ⟨x, H7, I7, r7, y7, st7, fr7⟩ => ?_
      have I7' := I7.pinned (stat fr7) (T.obj _ _ st7)
      refine wpAny_mono (hg _ _ _ _ _ s7 (sub ix σ) H7 x u _ I7' r7 (step x H7 y7)) (fun _ s8 ⟨σ8, H8, I8, wk8, q8⟩ => ?_) fun _ _ f => f.elim
      refine wpAny_mono (he _ _ _ _ _ s8 σ8 H8 _ I8 q8) (fun v9 s9 ⟨y, H9, I9, r9, q9⟩ => ?_) fun _ _ f => f.elim
      obtain ⟨ys, hD, hz, m', hm, w'⟩ := q9
      have ap := mt_append (X := Xc X scope s3.heap.objs.size s3 (upd H D (.lst [])) fp N' XF) _ s9 σ8 H9 (.ref D) [y] (.ref D) [v9] (fun _ H10 => W (i + 1) m' H10) I9 rfl (.cons r9 .nil) ⟨D, ys, y, rfl, rfl, hD, hz, w'⟩
      refine wpAny_mono ap (fun u10 s10 ⟨z10, H10, I10, _, w10⟩ => ?_) fun _ _ f => f.elim
      refine ⟨m', hm, i + 1, H10, ?_, T.keep _ _ _ st7 fun b hb o e => (I10.pin (b, o) (List.mem_append_right _ (List.mem_append_right _ (mem_pinsAt hb e)))).1, fun b hb => ?_, w10⟩
      · refine I10.unpinned.weak ?_ fun j v e => ?_
        · exact (I5.len).trans I10.len.symm
        · exact wk8 j v e
      · obtain ⟨o, e, d⟩ := T.obj _ _ st7 b hb
        exact (I10.pin (b, o) (List.mem_append_right _ (List.mem_append_right _ (mem_pinsAt hb e)))).2.1
  exact codeAny_compStart_list (loop _ rfl) (T.self _ 0 _ _ _ st4 (loop _ rfl))

def tComp (wi : TI) (g : TG) (te : TE) (ix : List (Option Nat)) : TE := fun σ H Q => wi σ H fun J H1 => ∀ D, H1 D = none → tCompW J g te ix σ H1 D fun H2 => Q (.ref D) H2
theorem hclos_of {X : Cx} {pins : List (Addr × Obj)} {σ : L2.St} {H : Hp} {s : Shared} {scope : Scope} {N' : List Str} {ix : List (Option Nat)} (I : Inv X pins σ H s) (ck : CompOk X.N X.env.scope scope N' ix) : closureFor scope X.env = pure (clOf X.env.cells scope.names []) :=
  closure_of fun x hx hfr => I.ok.has x.1 (ck.fre x hx hfr)
theorem pe_comp {X : Cx} {elt iter tg : Expr} {scope : Scope} {pos : Pos} {wi : TI} {g : TG} {te : TE} {N' : List Str} {ix : List (Option Nat)} (hc : X.calm = true) (ck : CompOk X.N X.env.scope scope N' ix) (hi : PI X tg iter wi)
    (hg : ∀ C s H fp, PG (Xc X scope C s H fp N' XF) tg g) (he : ∀ C s H fp, PE (Xc X scope C s H fp N' XF) elt te) (hs : ∀ x, foldedSetIterable iter X.env x = pure x := by intro _; rfl) :
    PE X (.ListComp elt [⟨tg, iter, [], 0⟩] scope pos) (tComp wi g te ix) := by
  intro pins s σ H Q I h
  rw [eval_ListComp]
  refine wpAny_comprehension_free (use := none) rfl hs (hclos_of I ck) ck.kind ck.loc (thn (hi pins s σ H _ I h) fun v s1 h1 => thn h1 fun itv s2 h2 => ?_)
  obtain ⟨it, fp, tn, J, H2, e, I2, T, st2, f2, q2⟩ := h2
  subst e
  refine comp_block (RR := fun acc C => compPost (model X.prog X.w) X.A X.xe none (EP X pins σ Q) acc C) hc ck hg he I2 T st2 f2 q2 fun D C s' H' _ _ _ hm hI q => ?_
  obtain ⟨m, hn⟩ := hm
  exact ⟨m, hn, fun h' sb => ⟨.ref D, H', hI h' sb, rfl, q⟩⟩
/-- name = [.. for ..] -/
theorem ps_setComp {X : Cx} {elt iter tg : Expr} {scope : Scope} {pos spos pos' : Pos} {wi : TI} {g : TG} {te : TE} {N' : List Str} {ix : List (Option Nat)} {i : Nat} {y : Str} (hc : X.calm = true) (ck : CompOk X.N X.env.scope scope N' ix) (hi : PI X tg iter wi)
    (hg : ∀ C s H fp, PG (Xc X scope C s H fp N' XF) tg g) (he : ∀ C s H fp, PE (Xc X scope C s H fp N' XF) elt te) (hN : X.N.Nodup) (hiy : X.N[i]? = some y) (hy : Loc X.env.scope y)
    (hsw : swapsWith (.ListComp elt [⟨tg, iter, [], 0⟩] scope pos) (some (.Name y pos')) spos.line X.env = pure true := by rfl) (hs : ∀ x, foldedSetIterable iter X.env x = pure x := by intro _; rfl)
    (hf : X.fn y = true ∨ X.env.scope.names.lookup y = some .local := by first | exact .inl rfl | exact .inr rfl | assumption) :
    PS X (.Assign [.Name y pos'] (.ListComp elt [⟨tg, iter, [], 0⟩] scope pos) spos) (tAsg (tComp wi g te ix) (gName i)) := by
  intro pins s σ H D I h
  rw [exec_Assign_Name_used _ _ _ _ hsw]
  refine wpAny_bind (wpAny_standAt (wpAny_bind ?_))
  show wpAny _ X.A (do let _ ← comprehension (.ListComp elt [⟨tg, iter, [], 0⟩] scope pos) scope X.env _ (newList []) false (eval iter X.env) (some (assign (.Name y pos') X.env))) _ _ s
  refine wpAny_bind (wpAny_mono (wpAny_comprehension_free (use := some (assign (.Name y pos') X.env)) (Q := fun _ s' => SP X pins D .next s') rfl hs (hclos_of I ck) ck.kind ck.loc
    (thn (hi pins s σ H _ I h) fun v s1 h1 => thn h1 fun itv s2 h2 => ?_)) (fun _ s' hq => wpAny_pure (wpAny_pure hq)) fun _ _ e => e)
  obtain ⟨it, fp, tn, J, H2, e, I2, T, st2, f2, q2⟩ := h2
  subst e
  refine comp_block (RR := fun acc C => compPost (model X.prog X.w) X.A X.xe (some (assign (.Name y pos') X.env)) (fun _ s' => SP X pins D .next s') acc C) hc ck hg he I2 T st2 f2 q2 fun Dd C s' H' fC hLC _ hm hI q => ?_
  obtain ⟨m, hn⟩ := hm
  show wpAny _ X.A (assign (.Name y pos') X.env (.ref Dd)) _ _ _
  have I0 : Inv X pins σ H' s' := hI s'.heap (.refl ..)
  refine wpAny_assign_Name (store_ok2 (v := .ref Dd) I0 hN hiy hy rfl (fun s2 I2 ⟨a, sb2, ha⟩ => ?_) hf)
  obtain ⟨f0, f1, _, f3, f4, f5⟩ := fC
  have hCa : C ≠ a := by
    rcases ha with rfl | ha
    · exact Ne.symm hLC
    · exact Ne.symm (f4 _ _ ha)
  refine ⟨m, hn.sameBut sb2 hCa, fun h' sb => ?_⟩
  exact ⟨_, H', I2.turned (t' := s2.toks) (fun b o hb e => (sb.2 b hb).trans e) f0 f1 f3 f4 f5, q⟩
end BF
set_option Elab.async false
set_option linter.all false
set_option maxRecDepth 100000
set_option maxHeartbeats 4000000
namespace BF
open PySem PySem.Spec L2

/-- a condition, decided by no reckoning -/
noncomputable def okB (p : Prop) : Bool := @decide p (Classical.propDecidable p)
theorem okB_iff {p : Prop} : okB p = true ↔ p := by unfold okB; exact @decide_eq_true_iff p (Classical.propDecidable p)
theorem okB_of {p : Prop} (h : p) : okB p = true := okB_iff.mpr h
noncomputable section
def dt (f : EF) : List Sl → Option Dm := fun δ => (f δ).map Rs.dat
theorem fz_some {f : EF} {δ : List Sl} {r : Rs} (e : f δ = some r) : fz f δ = some r.fz := by unfold fz; rw [e]; rfl
theorem dt_some {f : EF} {δ : List Sl} {d : Dm} (e : dt f δ = some d) : ∃ r, f δ = some r ∧ r.dat = d := by
  unfold dt at e
  cases h : f δ with
  | none => rw [h] at e; cases e
  | some r => rw [h] at e; exact ⟨r, rfl, Option.some.inj e⟩
/-- one operand; the rest by what it says -/
theorem run1 {K : PySem.W.Frag} {B G0 G : Hp} {δ : List Sl} {σ : L2.St} {H : Hp} {r : Rs} {Q R : VK} {f : EF} {ra : Rs} (k : KD K B G0 G δ σ H r Q) (e : f δ = some ra)
    (h : ∀ x G1 H1, KD K B G0 G1 δ σ H1 r Q → Gr G H G1 H1 → RsR K H G1 H1 δ σ ra.fz x → R x H1) : tD K (fz f) σ H R :=
  ⟨B, G0, G, δ, ra.fz, k.sim, fz_some e, fun x G1 H1 S1 g1 q1 => h x G1 H1 (k.step S1 g1) g1 q1⟩

section
variable {X : Cx}
def fVar (i : Nat) : EF := fun δ => match δ[i]? with
  | some (.sh d) => some (.sh d)
  | some (.ow ds) => some (.al i ds)
  | some (.so _ d) => some (.sh d)
  | some (.pt _ _ d) => some (.sh d)
  | _ => none
def fC (d : Dm) : EF := fun _ => some (.sh d)
def Dm.scal : Dm → Bool
  | .lst _ => false
  | .tup _ => false
  | _ => true
def vOf : Dm → V
  | .non => .non
  | .bl b => .bl b
  | .int i => .int i
  | .str x => .str x
  | _ => .non
theorem rep_scal {K : PySem.W.Frag} {G : Hp} {d : Dm} (h : d.scal = true) : Rep K G d (vOf d) := by
  cases d with
  | lst ds => exact absurd (show false = true from h) Bool.false_ne_true
  | tup ds => exact absurd (show false = true from h) Bool.false_ne_true
  | _ => unfold Rep; rfl

theorem pd_var (i : Nat) {x : Str} {pos : Pos} (hN : X.N[i]? = some x := by rfl) (hv : Vis X.env.scope x := by first | exact Or.inl rfl | exact Or.inr (Or.inl rfl) | exact Or.inr (Or.inr rfl))
    (hd : (x == ("__debug__" : Str)) = false := by decide +kernel) (hcd : (x == ("__classdict__" : Str)) = false := by decide +kernel) : PD X (.Name x pos) (fVar i) := by
  refine PE.imp (pe_var (i := i) hN hv hd hcd) fun σ H Q h => ?_
  obtain ⟨B, G0, G, δ, r, S, e, k⟩ := h
  unfold fVar at e
  cases q : δ[i]? with
  | none => rw [q] at e; cases e
  | some s =>
    rw [q] at e
    cases s with
    | un => cases e
    | sh d =>
      cases e
      obtain ⟨v, e1, e2⟩ := S.slot i _ q
      exact ⟨v, e1, k v G H S Gr.refl e2⟩
    | ow ds =>
      cases e
      obtain ⟨p, xs, e1, _⟩ := S.slot i _ q
      exact ⟨.ref p, e1, k _ G H S Gr.refl ⟨q, e1⟩⟩
    | so C d =>
      cases e
      obtain ⟨v, e1, e2, z⟩ := S.slot i _ q
      exact ⟨v, e1, k v G H S Gr.refl (Rep.mono z e2)⟩
    | pt p kk d =>
      cases e
      obtain ⟨v, xs, e1, e2, _⟩ := S.slot i _ q
      exact ⟨v, e1, k v G H S Gr.refl e2⟩
    | xc C => cases e
theorem pd_int {i j pos} : PD X (.Constant (.int i) j pos) (fC (.int i)) := PE.imp pe_int fun σ H Q h => by
  obtain ⟨B, G0, G, δ, r, S, e, k⟩ := h
  cases e
  exact k _ G H S Gr.refl (rep_scal rfl)
theorem pd_bl {i j pos} : PD X (.Constant (.bool i) j pos) (fC (.bl i)) := PE.imp pe_bl fun σ H Q h => by
  obtain ⟨B, G0, G, δ, r, S, e, k⟩ := h
  cases e
  exact k _ G H S Gr.refl (rep_scal rfl)
theorem pd_str {i j pos} : PD X (.Constant (.str i) j pos) (fC (.str i)) := PE.imp pe_str fun σ H Q h => by
  obtain ⟨B, G0, G, δ, r, S, e, k⟩ := h
  cases e
  exact k _ G H S Gr.refl (rep_scal rfl)
theorem pd_non {j pos} : PD X (.Constant .none j pos) (fC .non) := PE.imp pe_non fun σ H Q h => by
  obtain ⟨B, G0, G, δ, r, S, e, k⟩ := h
  cases e
  exact k _ G H S Gr.refl (rep_scal rfl)

/-! ### two operands, a scalar out -/
def op2 (o : Dm → Dm → Option Dm) (fa fb : EF) : EF := fun δ => (dt fa δ).bind fun a => (dt fb δ).bind fun b => (o a b).map .sh
def Op2 (K : PySem.W.Frag) (r : R2) (o : Dm → Dm → Option Dm) : Prop := ∀ x y H a b d Q, Rep K H a x → Rep K H b y → o a b = some d → d.scal = true ∧ (Q (vOf d) H → r x y H Q)
theorem op2_run {K : PySem.W.Frag} {r : R2} {o : Dm → Dm → Option Dm} {fa fb : EF} (h2 : Op2 K r o) {σ : L2.St} {H : Hp} {Q : VK} (h : tD K (op2 o fa fb) σ H Q) : tOp r (tD K (fz fa)) (tD K (fz fb)) σ H Q := by
  obtain ⟨B, G0, G, δ, r0, S, e, k⟩ := h
  obtain ⟨a, ea, e⟩ := Option.bind_eq_some_iff.mp e
  obtain ⟨b, eb, e⟩ := Option.bind_eq_some_iff.mp e
  obtain ⟨d, ed, e⟩ := Option.map_eq_some_iff.mp e
  subst e
  obtain ⟨ra, era, rfl⟩ := dt_some ea
  obtain ⟨rb, erb, rfl⟩ := dt_some eb
  refine run1 ⟨S, k⟩ era fun x G1 H1 k1 g1 q1 => run1 k1 erb fun y G2 H2 k2 g2 q2 => ?_
  have r1 := RsR.rep k2.sim (q1.mono (H' := H2) (B'' := H2) ra.fz_still g2.gg)
  have r2 := RsR.rep k2.sim q2
  rw [Rs.fz_dat] at r1 r2
  obtain ⟨sc, go⟩ := h2 x y H2 _ _ d Q r1 r2 ed
  exact go (k2.now (rep_scal sc))
theorem pd_op2 {op : Operator} {a b : Expr} {pos : Pos} {r : R2} {o : Dm → Dm → Option Dm} {fa fb : EF} (ho : OpR X (binaryOp op) r) (h2 : Op2 X.K r o) (ha : PD X a fa) (hb : PD X b fb) : PD X (.BinOp a op b pos) (op2 o fa fb) :=
  PE.imp (pe_op ho ha.fz hb.fz) fun _ _ _ h => op2_run h2 h
theorem pd_cmp {op : CmpOp} {a b : Expr} {pos : Pos} {r : R2} {o : Dm → Dm → Option Dm} {fa fb : EF} (ho : OpR X (compareOp op) r) (h2 : Op2 X.K r o) (ha : PD X a fa) (hb : PD X b fb) (hm : behindInMarks op b = false) : PD X (.Compare a [op] [b] pos) (op2 o fa fb) :=
  PE.imp (pe_cmpR ho ha.fz hb.fz hm) fun _ _ _ h => op2_run h2 h
/-- ints in -/
def oI (C : Int → Int → Bool) (g : Int → Int → Dm) : Dm → Dm → Option Dm
  | .int i, .int j => if C i j then some (g i j) else none
  | _, _ => none
theorem oI_some {C : Int → Int → Bool} {g : Int → Int → Dm} {a b d : Dm} (e : oI C g a b = some d) : ∃ i j, a = .int i ∧ b = .int j ∧ C i j = true ∧ d = g i j := by
  unfold oI at e
  split at e
  · rename_i i j
    split at e
    · rename_i h; exact ⟨i, j, rfl, rfl, h, (Option.some.inj e).symm⟩
    · cases e
  · cases e
theorem op2_I {K : PySem.W.Frag} {Cp : Int → Int → Prop} {C : Int → Int → Bool} {g : Int → Int → Int} (hC : ∀ i j, C i j = true → Cp i j) : Op2 K (rI Cp fun i j => .int (g i j)) (oI C fun i j => .int (g i j)) := by
  intro x y H a b d Q ra rb e
  obtain ⟨i, j, rfl, rfl, hc, rfl⟩ := oI_some e
  unfold Rep at ra rb
  exact ⟨rfl, fun q => ⟨i, j, ra, rb, hC i j hc, q⟩⟩
theorem op2_I0 {K : PySem.W.Frag} {g : Int → Int → Int} : Op2 K (rI0 fun i j => .int (g i j)) (oI (fun _ _ => true) fun i j => .int (g i j)) := by
  intro x y H a b d Q ra rb e
  obtain ⟨i, j, rfl, rfl, hc, rfl⟩ := oI_some e
  unfold Rep at ra rb
  exact ⟨rfl, fun q => ⟨i, j, ra, rb, q⟩⟩
theorem op2_B0 {K : PySem.W.Frag} {g : Int → Int → Bool} : Op2 K (rI0 fun i j => .bl (g i j)) (oI (fun _ _ => true) fun i j => .bl (g i j)) := by
  intro x y H a b d Q ra rb e
  obtain ⟨i, j, rfl, rfl, hc, rfl⟩ := oI_some e
  unfold Rep at ra rb
  exact ⟨rfl, fun q => ⟨i, j, ra, rb, q⟩⟩
def oAdd := oI (fun _ _ => true) fun i j => .int (i + j)
def oSub := oI (fun _ _ => true) fun i j => .int (i - j)
def mulOk (a b : Int) : Bool := okB (IntMulOk a b)
def oMul := oI mulOk fun i j => .int (i * j)
def divOk (j : Int) : Bool := okB (0 < j ∧ j.natAbs.log2 < 9000)
def posOk (j : Int) : Bool := okB (0 < j)
def nnOk (j : Int) : Bool := okB (0 ≤ j)
def oDiv := oI (fun _ j => divOk j) fun i j => .int (i / j)
def oMod := oI (fun _ j => posOk j) fun i j => .int (i % j)
def powOk (i j : Int) : Bool := okB (0 ≤ j ∧ j ≤ 1000000 ∧ i.natAbs < 2 ^ 64)
def oPow := oI powOk fun i j => .int (i ^ j.toNat)
def oShl := oI powOk fun i j => .int (i * 2 ^ j.toNat)
def oShr := oI (fun _ j => nnOk j) fun i j => .int (i / 2 ^ j.toNat)
def oAnd := oI (fun _ _ => true) fun i j => .int (Builtin.bitAnd i j)
def oOr := oI (fun _ _ => true) fun i j => .int (Builtin.bitOr i j)
def oXor := oI (fun _ _ => true) fun i j => .int (Builtin.bitXor i j)
def oLt := oI (fun _ _ => true) fun i j => .bl (decide (i < j))
def oLe := oI (fun _ _ => true) fun i j => .bl (decide (i ≤ j))
def oGt := oI (fun _ _ => true) fun i j => .bl (decide (j < i))
def oGe := oI (fun _ _ => true) fun i j => .bl (decide (j ≤ i))
section
variable {a b : Expr} {pos : Pos} {fa fb : EF}
theorem pd_add (ha : PD X a fa) (hb : PD X b fb) : PD X (.BinOp a .Add b pos) (op2 oAdd fa fb) := pd_op2 op_add op2_I0 ha hb
theorem pd_sub (ha : PD X a fa) (hb : PD X b fb) : PD X (.BinOp a .Sub b pos) (op2 oSub fa fb) := pd_op2 op_sub op2_I0 ha hb
theorem pd_mul (ha : PD X a fa) (hb : PD X b fb) : PD X (.BinOp a .Mult b pos) (op2 oMul fa fb) := pd_op2 op_mulB (op2_I fun i j h => okB_iff.mp h) ha hb
theorem pd_div (ha : PD X a fa) (hb : PD X b fb) : PD X (.BinOp a .FloorDiv b pos) (op2 oDiv fa fb) := pd_op2 op_fdivB (op2_I fun i j h => okB_iff.mp h) ha hb
theorem pd_mod (ha : PD X a fa) (hb : PD X b fb) : PD X (.BinOp a .Mod b pos) (op2 oMod fa fb) := pd_op2 op_mod (op2_I fun i j h => okB_iff.mp h) ha hb
theorem pd_pow (ha : PD X a fa) (hb : PD X b fb) : PD X (.BinOp a .Pow b pos) (op2 oPow fa fb) := pd_op2 op_pow (op2_I fun i j h => okB_iff.mp h) ha hb
theorem pd_shl (ha : PD X a fa) (hb : PD X b fb) : PD X (.BinOp a .LShift b pos) (op2 oShl fa fb) := pd_op2 op_shl (op2_I fun i j h => okB_iff.mp h) ha hb
theorem pd_shr (ha : PD X a fa) (hb : PD X b fb) : PD X (.BinOp a .RShift b pos) (op2 oShr fa fb) := pd_op2 op_shr (op2_I fun i j h => okB_iff.mp h) ha hb
theorem pd_band (ha : PD X a fa) (hb : PD X b fb) : PD X (.BinOp a .BitAnd b pos) (op2 oAnd fa fb) := pd_op2 op_and op2_I0 ha hb
theorem pd_bor (ha : PD X a fa) (hb : PD X b fb) : PD X (.BinOp a .BitOr b pos) (op2 oOr fa fb) := pd_op2 op_or op2_I0 ha hb
theorem pd_xor (ha : PD X a fa) (hb : PD X b fb) : PD X (.BinOp a .BitXor b pos) (op2 oXor fa fb) := pd_op2 op_xor op2_I0 ha hb
theorem pd_lt (ha : PD X a fa) (hb : PD X b fb) : PD X (.Compare a [.Lt] [b] pos) (op2 oLt fa fb) := pd_cmp op_lt op2_B0 ha hb (nomark _)
theorem pd_le (ha : PD X a fa) (hb : PD X b fb) : PD X (.Compare a [.LtE] [b] pos) (op2 oLe fa fb) := pd_cmp op_le op2_B0 ha hb (nomark _)
theorem pd_gt (ha : PD X a fa) (hb : PD X b fb) : PD X (.Compare a [.Gt] [b] pos) (op2 oGt fa fb) := pd_cmp op_gt op2_B0 ha hb (nomark _)
theorem pd_ge (ha : PD X a fa) (hb : PD X b fb) : PD X (.Compare a [.GtE] [b] pos) (op2 oGe fa fb) := pd_cmp op_ge op2_B0 ha hb (nomark _)
end
def oEq (neg : Bool) : Dm → Dm → Option Dm := fun a b => if okEq a && okEq b then some (.bl (if neg then !eqD a b else eqD a b)) else none
theorem op2_eq {K : PySem.W.Frag} (neg : Bool) : Op2 K (rEqD K neg) (oEq neg) := by
  intro x y H a b d Q ra rb e
  unfold oEq at e
  by_cases hc : (okEq a && okEq b) = true
  · rw [if_pos hc] at e; cases e
    rw [Bool.and_eq_true] at hc
    exact ⟨rfl, fun q => ⟨a, b, ra, rb, hc.1, hc.2, q⟩⟩
  · rw [if_neg hc] at e; cases e
theorem pd_eq {a b : Expr} {pos : Pos} {fa fb : EF} (hu : X.A.units + 64 < cLine) (ha : PD X a fa) (hb : PD X b fb) : PD X (.Compare a [.Eq] [b] pos) (op2 (oEq false) fa fb) := pd_cmp (op_eqD hu) (op2_eq false) ha hb (nomark _)
theorem pd_ne {a b : Expr} {pos : Pos} {fa fb : EF} (hu : X.A.units + 64 < cLine) (ha : PD X a fa) (hb : PD X b fb) : PD X (.Compare a [.NotEq] [b] pos) (op2 (oEq true) fa fb) := pd_cmp (op_neD hu) (op2_eq true) ha hb (nomark _)
/-- -a -/
def Dm.int? : Dm → Option Int
  | .int i => some i
  | _ => none
theorem int_some {d : Dm} {i : Int} (e : d.int? = some i) : d = .int i := by
  cases d <;> first | (cases e; done) | (have e' := Option.some.inj e; rw [e'])
def fNeg (fa : EF) : EF := fun δ => (dt fa δ).bind fun a => a.int?.map fun i => .sh (.int (-i))
theorem pd_neg {a : Expr} {pos : Pos} {fa : EF} (ha : PD X a fa) : PD X (.UnaryOp .USub a pos) (fNeg fa) := PE.imp (pe_un un_neg ha.fz) fun σ H Q h => by
  obtain ⟨B, G0, G, δ, r0, S, e, k⟩ := h
  obtain ⟨a, ea, e⟩ := Option.bind_eq_some_iff.mp e
  obtain ⟨ra, era, rfl⟩ := dt_some ea
  refine run1 ⟨S, k⟩ era fun x G1 H1 k1 g1 q1 => ?_
  have r1 := RsR.rep k1.sim q1
  obtain ⟨i, ei, e⟩ := Option.map_eq_some_iff.mp e
  subst e
  rw [Rs.fz_dat, int_some ei] at r1
  unfold Rep at r1
  exact ⟨_, r1, k1.now (rep_scal rfl)⟩

/-! ### lists -/
def Dm.lst? : Dm → Option (List Dm)
  | .lst ds => some ds
  | _ => none
theorem lst_some {d : Dm} {ds : List Dm} (e : d.lst? = some ds) : d = .lst ds := by
  cases d <;> first | (cases e; done) | (have e' := Option.some.inj e; rw [e'])
def fCat (fa fb : EF) : EF := fun δ => (dt fa δ).bind fun a => (dt fb δ).bind fun b => a.lst?.bind fun xs => b.lst?.bind fun ys => if xs.length + ys.length ≤ sizeLine then some (.ow (xs ++ ys)) else none
theorem pd_cat {a b : Expr} {pos : Pos} {fa fb : EF} (ha : PD X a fa) (hb : PD X b fb) : PD X (.BinOp a .Add b pos) (fCat fa fb) := PE.imp (pe_op op_catQ ha.fz hb.fz) fun σ H Q h => by
  obtain ⟨B, G0, G, δ, r0, S, e, k⟩ := h
  obtain ⟨a, ea, e⟩ := Option.bind_eq_some_iff.mp e
  obtain ⟨b, eb, e⟩ := Option.bind_eq_some_iff.mp e
  obtain ⟨ra, era, rfl⟩ := dt_some ea
  obtain ⟨rb, erb, rfl⟩ := dt_some eb
  obtain ⟨xs, ex, e⟩ := Option.bind_eq_some_iff.mp e
  obtain ⟨ys, ey, e⟩ := Option.bind_eq_some_iff.mp e
  refine run1 ⟨S, k⟩ era fun x G1 H1 k1 g1 q1 => run1 k1 erb fun y G2 H2 k2 g2 q2 => ?_
  by_cases hc : xs.length + ys.length ≤ sizeLine
  · rw [if_pos hc] at e; cases e
    obtain ⟨l, vs, rfl, hl, rl⟩ := RsR.lst k2.sim (q1.mono (H' := H2) (B'' := H2) ra.fz_still g2.gg) (by rw [Rs.fz_dat]; exact lst_some ex)
    obtain ⟨l', vs', rfl, hl', rl'⟩ := RsR.lst k2.sim q2 (by rw [Rs.fz_dat]; exact lst_some ey)
    exact ⟨l, l', vs, vs', rfl, rfl, hl, hl', by rw [← rl.length, ← rl'.length]; exact hc, fun p hp => k2.newL (rl.append rl') hp⟩
  · rw [if_neg hc] at e; cases e
def repOk (k : Nat) (n : Int) : Bool := okB (-(2 ^ 63) ≤ n ∧ n < 2 ^ 63 ∧ k * n.toNat ≤ sizeLine)
def fRep (fa fb : EF) : EF := fun δ => (dt fa δ).bind fun a => (dt fb δ).bind fun b => a.lst?.bind fun xs => b.int?.bind fun n => if repOk xs.length n then some (.ow (List.replicate n.toNat xs).flatten) else none
theorem pd_rep {a b : Expr} {pos : Pos} {fa fb : EF} (ha : PD X a fa) (hb : PD X b fb) : PD X (.BinOp a .Mult b pos) (fRep fa fb) := PE.imp (pe_op op_repQ ha.fz hb.fz) fun σ H Q h => by
  obtain ⟨B, G0, G, δ, r0, S, e, k⟩ := h
  obtain ⟨a, ea, e⟩ := Option.bind_eq_some_iff.mp e
  obtain ⟨b, eb, e⟩ := Option.bind_eq_some_iff.mp e
  obtain ⟨ra, era, rfl⟩ := dt_some ea
  obtain ⟨rb, erb, rfl⟩ := dt_some eb
  obtain ⟨xs, ex, e⟩ := Option.bind_eq_some_iff.mp e
  obtain ⟨n, ey, e⟩ := Option.bind_eq_some_iff.mp e
  refine run1 ⟨S, k⟩ era fun x G1 H1 k1 g1 q1 => run1 k1 erb fun y G2 H2 k2 g2 q2 => ?_
  by_cases hc : repOk xs.length n = true
  · rw [if_pos hc] at e; cases e
    obtain ⟨l, vs, rfl, hl, rl⟩ := RsR.lst k2.sim (q1.mono (H' := H2) (B'' := H2) ra.fz_still g2.gg) (by rw [Rs.fz_dat]; exact lst_some ex)
    have r2 := RsR.rep k2.sim q2
    rw [Rs.fz_dat, int_some ey] at r2
    unfold Rep at r2
    obtain ⟨h1, h2, h3⟩ := okB_iff.mp hc
    exact ⟨l, n, vs, rfl, r2, hl, h1, h2, by rw [← rl.length]; exact h3, fun p hp => k2.newL (rl.rep _) hp⟩
  · rw [if_neg hc] at e; cases e
def ixD : Dm → Int → Option Dm
  | .lst ds, i => atI ds i
  | .tup ds, i => atI ds i
  | .str z, i => if z.length ≤ sizeLine then (atI z.cps.toList i).map fun c => .str ⟨#[c]⟩ else none
  | _, _ => none
def fIx (fa fb : EF) : EF := fun δ => (dt fa δ).bind fun a => (dt fb δ).bind fun b => b.int?.bind fun i => (ixD a i).map .sh
theorem reps_at {K : PySem.W.Frag} {G : Hp} {ds : List Dm} {xs : List V} {i : Int} {d : Dm} (h : Reps K G ds xs) (e : atI ds i = some d) : ∃ v, atI xs i = some v ∧ Rep K G d v := by
  unfold atI at e ⊢
  rw [← h.length]
  cases q : ixN ds.length i with
  | none => rw [q] at e; cases e
  | some j =>
    rw [q] at e
    exact h.get e
theorem pd_ix {a b : Expr} {pos : Pos} {fa fb : EF} (ha : PD X a fa) (hb : PD X b fb) (hs : PlainIx b := by intro _ _; rfl) : PD X (.Subscript a b pos) (fIx fa fb) := PE.imp (pe_ix ix_seq ha.fz hb.fz hs) fun σ H Q h => by
  obtain ⟨B, G0, G, δ, r0, S, e, k⟩ := h
  obtain ⟨a, ea, e⟩ := Option.bind_eq_some_iff.mp e
  obtain ⟨b, eb, e⟩ := Option.bind_eq_some_iff.mp e
  obtain ⟨ra, era, rfl⟩ := dt_some ea
  obtain ⟨rb, erb, rfl⟩ := dt_some eb
  obtain ⟨i, ei, e⟩ := Option.bind_eq_some_iff.mp e
  obtain ⟨d, ed, e⟩ := Option.map_eq_some_iff.mp e
  subst e
  refine run1 ⟨S, k⟩ era fun x G1 H1 k1 g1 q1 => run1 k1 erb fun y G2 H2 k2 g2 q2 => ?_
  have r2 := RsR.rep k2.sim q2
  rw [Rs.fz_dat, int_some ei] at r2
  unfold Rep at r2
  have q1' := q1.mono (H' := H2) (B'' := H2) ra.fz_still g2.gg
  cases hd : ra.dat with
  | non => rw [hd] at ed; cases ed
  | bl b => rw [hd] at ed; cases ed
  | int j => rw [hd] at ed; cases ed
  | str z =>
    rw [hd] at ed
    have r1 := RsR.rep k2.sim q1'
    rw [Rs.fz_dat, hd] at r1
    unfold Rep at r1
    have ed' : (if z.length ≤ sizeLine then (atI z.cps.toList i).map fun c => Dm.str ⟨#[c]⟩ else none) = some d := ed
    by_cases hz : z.length ≤ sizeLine
    · rw [if_pos hz] at ed'
      obtain ⟨c, ec, ed'⟩ := Option.map_eq_some_iff.mp ed'
      subst ed'
      exact .inr (.inr ⟨z, i, c, r1, r2, hz, ec, k2.now (rep_scal rfl)⟩)
    · rw [if_neg hz] at ed'; cases ed'
  | lst ds =>
    rw [hd] at ed
    obtain ⟨l, vs, rfl, hl, rl⟩ := RsR.lst k2.sim q1' (by rw [Rs.fz_dat]; exact hd)
    obtain ⟨v, ev, rv⟩ := reps_at rl ed
    exact .inl ⟨l, vs, i, v, rfl, r2, hl, ev, k2.now rv⟩
  | tup ds =>
    rw [hd] at ed
    obtain ⟨l, vs, rfl, hl, rl⟩ := RsR.tup k2.sim q1' (by cases ra <;> rfl) (by rw [Rs.fz_dat]; exact hd)
    obtain ⟨v, ev, rv⟩ := reps_at rl ed
    exact .inr (.inl ⟨l, vs, i, v, rfl, r2, hl, ev, k2.now rv⟩)

/-! ### slices -/
def cutD (xs : List Dm) (lo hi : Option Int) : List Dm := (xs.drop (HT.sIx xs.length 0 lo)).take (HT.sIx xs.length xs.length hi - HT.sIx xs.length 0 lo)
theorem reps_cut {K : PySem.W.Frag} {G : Hp} {ds : List Dm} {xs : List V} (h : Reps K G ds xs) (lo hi : Option Int) : Reps K G (cutD ds lo hi) (cutV xs lo hi) := by
  unfold cutD cutV
  rw [h.length]
  exact (h.drop _).take _
/-- a part of a slice -/
abbrev OF := List Sl → Option (Option Int)
def pNo : OF := fun _ => some none
def pSome (f : EF) : OF := fun δ => (dt f δ).bind fun a => a.int?.map some
def tOD (K : PySem.W.Frag) (f : OF) : TO := fun σ H Q => ∃ B G0 G δ o, Sim K B G0 G δ σ H ∧ f δ = some o ∧ ∀ G' H', Sim K B G0 G' δ σ H' → Gr G H G' H' → Q o H'
def POD (X : Cx) (e : Option Expr) (f : OF) : Prop := PO X e (tOD X.K f)
theorem PO.imp {e : Option Expr} {t t' : TO} (h : PO X e t) (i : ∀ σ H Q, t' σ H Q → t σ H Q) : PO X e t' := fun pins s σ H Q I q => h pins s σ H Q I (i σ H Q q)
theorem po_no : POD X none pNo := PO.imp po_none fun σ H Q h => by
  obtain ⟨B, G0, G, δ, o, S, e, k⟩ := h
  cases e
  exact k G H S Gr.refl
theorem po_at {e : Expr} {f : EF} (h : PD X e f) : POD X (some e) (pSome f) := PO.imp (po_some h.fz) fun σ H Q h => by
  obtain ⟨B, G0, G, δ, o, S, e, k⟩ := h
  obtain ⟨a, ea, e⟩ := Option.bind_eq_some_iff.mp e
  obtain ⟨ra, era, rfl⟩ := dt_some ea
  obtain ⟨i, ei, e⟩ := Option.map_eq_some_iff.mp e
  subst e
  refine ⟨B, G0, G, δ, ra.fz, S, fz_some era, fun x G1 H1 S1 g1 q1 => ?_⟩
  have r1 := RsR.rep S1 q1
  rw [Rs.fz_dat, int_some ei] at r1
  unfold Rep at r1
  exact ⟨_, r1, k G1 H1 S1 g1⟩
def slD (d : Dm) (l h : Option Int) : Option Rs := match d with
  | .lst ds => some (.ow (cutD ds l h))
  | .tup ds => if HT.sIx ds.length 0 l = 0 ∧ HT.sIx ds.length ds.length h = ds.length then none else some (.sh (.tup (cutD ds l h)))
  | _ => none
def fSl (fa : EF) (lo hi : OF) : EF := fun δ => (dt fa δ).bind fun a => (lo δ).bind fun l => (hi δ).bind fun h => slD a l h
theorem pd_sl {a : Expr} {pos p2 : Pos} {lo hi : Option Expr} {fa : EF} {fl fh : OF} (ha : PD X a fa) (hl : POD X lo fl) (hh : POD X hi fh) : PD X (.Subscript a (.Slice lo hi none p2) pos) (fSl fa fl fh) := PE.imp (pe_slice (sl_list.or sl_tup) ha.fz hl hh) fun σ H Q h => by
  obtain ⟨B, G0, G, δ, r0, S, e, k⟩ := h
  obtain ⟨a, ea, e⟩ := Option.bind_eq_some_iff.mp e
  obtain ⟨l, el, e⟩ := Option.bind_eq_some_iff.mp e
  obtain ⟨u, eu, e⟩ := Option.bind_eq_some_iff.mp e
  obtain ⟨ra, era, rfl⟩ := dt_some ea
  refine run1 ⟨S, k⟩ era fun x G1 H1 k1 g1 q1 => ⟨B, G0, G1, δ, l, k1.sim, el, fun G2 H2 S2 g2 => ⟨B, G0, G2, δ, u, S2, eu, fun G3 H3 S3 g3 => ?_⟩⟩
  have k3 := (k1.step S2 g2).step S3 g3
  have q3 := (q1.mono (H' := H2) (B'' := H2) ra.fz_still g2.gg).mono (H' := H3) (B'' := H3) ra.fz_still g3.gg
  cases hd : ra.dat with
  | non => rw [hd] at e; cases e
  | bl b => rw [hd] at e; cases e
  | int j => rw [hd] at e; cases e
  | str z => rw [hd] at e; cases e
  | lst ds =>
    rw [hd] at e
    cases e
    obtain ⟨a, vs, rfl, hl, rl⟩ := RsR.lst k3.sim q3 (by rw [Rs.fz_dat]; exact hd)
    exact .inl ⟨a, vs, rfl, hl, fun p hp => k3.newL (reps_cut rl l u) hp⟩
  | tup ds =>
    rw [hd] at e
    have e' : (if HT.sIx ds.length 0 l = 0 ∧ HT.sIx ds.length ds.length u = ds.length then none else some (Rs.sh (.tup (cutD ds l u)))) = some r0 := e
    obtain ⟨a, vs, rfl, hl, rl⟩ := RsR.tup k3.sim q3 (by cases ra <;> rfl) (by rw [Rs.fz_dat]; exact hd)
    by_cases hc : HT.sIx ds.length 0 l = 0 ∧ HT.sIx ds.length ds.length u = ds.length
    · rw [if_pos hc] at e'; cases e'
    · rw [if_neg hc] at e'; cases e'
      exact .inr ⟨a, vs, rfl, hl, by rw [← rl.length]; exact hc, fun p hp => k3.newT (reps_cut rl l u) hp⟩
end
end
end BF
set_option Elab.async false
set_option linter.all false
set_option maxRecDepth 100000
set_option maxHeartbeats 4000000
namespace BF
open PySem PySem.Spec L2
noncomputable section
variable {X : Cx}

/-! ### tests -/
abbrev BF' := List Sl → Option Bool
def tTD (K : PySem.W.Frag) (f : BF') : TT := fun σ H Q => ∃ B G0 G δ b, Sim K B G0 G δ σ H ∧ f δ = some b ∧ ∀ G' H', Sim K B G0 G' δ σ H' → Gr G H G' H' → Q b H'
def PTD (X : Cx) (e : Expr) (f : BF') : Prop := PT X e (tTD X.K f)
def PWD (X : Cx) (e : Expr) (f : BF') : Prop := PW X e (tTD X.K f)
theorem PW.imp {e : Expr} {t t' : TT} (h : PW X e t) (i : ∀ σ H Q, t' σ H Q → t σ H Q) : PW X e t' := fun wh pins s σ H Q I q => h wh pins s σ H Q I (i σ H Q q)
def Dm.bl? : Dm → Option Bool
  | .bl b => some b
  | _ => none
theorem bl_some {d : Dm} {b : Bool} (e : d.bl? = some b) : d = .bl b := by
  cases d <;> first | (cases e; done) | (have e' := Option.some.inj e; rw [e'])
def bB (f : EF) : BF' := fun δ => (dt f δ).bind Dm.bl?
theorem tD_bB {K : PySem.W.Frag} {f : EF} {σ : L2.St} {H : Hp} {Q : Bool → Hp → Prop} (h : tTD K (bB f) σ H Q) : tD K (fz f) σ H fun x H' => ∃ k, x = .bl k ∧ Q k H' := by
  obtain ⟨B, G0, G, δ, b, S, e, k⟩ := h
  obtain ⟨a, ea, e⟩ := Option.bind_eq_some_iff.mp e
  obtain ⟨ra, era, rfl⟩ := dt_some ea
  refine ⟨B, G0, G, δ, ra.fz, S, fz_some era, fun x G1 H1 S1 g1 q1 => ?_⟩
  have r1 := RsR.rep S1 q1
  rw [Rs.fz_dat, bl_some e] at r1
  unfold Rep at r1
  exact ⟨b, r1, k G1 H1 S1 g1⟩
/-- a test that is its value's truth, the value a bool -/
theorem pt_of {e : Expr} {f : EF} (h : PD X e f) (he : ∀ whole, isTrue e X.env whole = (do let v ← whole; standAt e.pos; holding [v] (truthy v)) := by intro _; rfl) : PTD X e (bB f) :=
  PT.imp (pt_val h.fz he) fun _ _ _ q => tD_bB q
theorem pt_c {op : CmpOp} {a b : Expr} {pos : Pos} {r : R2} {o : Dm → Dm → Option Dm} {fa fb : EF} (ho : OpR X (compareOp op) r) (h2 : Op2 X.K r o) (ha : PD X a fa) (hb : PD X b fb) (hm : behindInMarks op b = false) : PTD X (.Compare a [op] [b] pos) (bB (op2 o fa fb)) :=
  PT.imp (pt_cmpR ho ha.fz hb.fz hm) fun σ H Q q => op2_run h2 (by
    have q' := tD_bB q
    obtain ⟨B, G0, G, δ, r, S, e, k⟩ := q'
    obtain ⟨r1, e1, e2⟩ := Option.map_eq_some_iff.mp (show (op2 o fa fb δ).map Rs.fz = some r from e)
    refine ⟨B, G0, G, δ, r1, S, e1, fun v G' H' S' g q => ?_⟩
    have hr : r1.fz = r1 := by
      obtain ⟨a, ea, e1⟩ := Option.bind_eq_some_iff.mp e1
      obtain ⟨b, eb, e1⟩ := Option.bind_eq_some_iff.mp e1
      obtain ⟨d, ed, e1⟩ := Option.map_eq_some_iff.mp e1
      rw [← e1]; rfl
    exact k v G' H' S' g (by rw [← e2, hr]; exact q))
section
variable {a b : Expr} {pos : Pos} {fa fb : EF}
theorem pt_lt (ha : PD X a fa) (hb : PD X b fb) : PTD X (.Compare a [.Lt] [b] pos) (bB (op2 oLt fa fb)) := pt_c op_lt op2_B0 ha hb (nomark _)
theorem pt_le (ha : PD X a fa) (hb : PD X b fb) : PTD X (.Compare a [.LtE] [b] pos) (bB (op2 oLe fa fb)) := pt_c op_le op2_B0 ha hb (nomark _)
theorem pt_gt (ha : PD X a fa) (hb : PD X b fb) : PTD X (.Compare a [.Gt] [b] pos) (bB (op2 oGt fa fb)) := pt_c op_gt op2_B0 ha hb (nomark _)
theorem pt_ge (ha : PD X a fa) (hb : PD X b fb) : PTD X (.Compare a [.GtE] [b] pos) (bB (op2 oGe fa fb)) := pt_c op_ge op2_B0 ha hb (nomark _)
theorem pt_eq (hu : X.A.units + 64 < cLine) (ha : PD X a fa) (hb : PD X b fb) : PTD X (.Compare a [.Eq] [b] pos) (bB (op2 (oEq false) fa fb)) := pt_c (op_eqD hu) (op2_eq false) ha hb (nomark _)
theorem pt_ne (hu : X.A.units + 64 < cLine) (ha : PD X a fa) (hb : PD X b fb) : PTD X (.Compare a [.NotEq] [b] pos) (bB (op2 (oEq true) fa fb)) := pt_c (op_neD hu) (op2_eq true) ha hb (nomark _)
end
def bAnd (f g : BF') : BF' := fun δ => (f δ).bind fun a => if a = true then g δ else some false
def bOr (f g : BF') : BF' := fun δ => (f δ).bind fun a => if a = true then some true else g δ
def bNot (f : BF') : BF' := fun δ => (f δ).map (!·)
theorem pw1_and {a : Expr} {pos : Pos} {f : BF'} (h : PTD X a f) : PWD X (.BoolOp .And [a] pos) f := pw_and1 h
theorem pw1_or {a : Expr} {pos : Pos} {f : BF'} (h : PTD X a f) : PWD X (.BoolOp .Or [a] pos) f := pw_or1 h
theorem pwd_and {a b : Expr} {rest : List Expr} {pos : Pos} {f g : BF'} (h : PTD X a f) (h' : PWD X (.BoolOp .And (b :: rest) pos) g) : PWD X (.BoolOp .And (a :: b :: rest) pos) (bAnd f g) := PW.imp (pw_and h h') fun σ H Q q => by
  obtain ⟨B, G0, G, δ, c, S, e, k⟩ := q
  obtain ⟨a, ea, e⟩ := Option.bind_eq_some_iff.mp e
  refine ⟨B, G0, G, δ, a, S, ea, fun G1 H1 S1 g1 => ?_⟩
  cases a with
  | true => rw [if_pos rfl] at e ⊢; exact ⟨B, G0, G1, δ, c, S1, e, fun G2 H2 S2 g2 => k G2 H2 S2 (g1.trans g2)⟩
  | false => rw [if_neg Bool.false_ne_true] at e ⊢; cases e; exact k G1 H1 S1 g1
theorem pwd_or {a b : Expr} {rest : List Expr} {pos : Pos} {f g : BF'} (h : PTD X a f) (h' : PWD X (.BoolOp .Or (b :: rest) pos) g) : PWD X (.BoolOp .Or (a :: b :: rest) pos) (bOr f g) := PW.imp (pw_or h h') fun σ H Q q => by
  obtain ⟨B, G0, G, δ, c, S, e, k⟩ := q
  obtain ⟨a, ea, e⟩ := Option.bind_eq_some_iff.mp e
  refine ⟨B, G0, G, δ, a, S, ea, fun G1 H1 S1 g1 => ?_⟩
  cases a with
  | false => rw [if_neg Bool.false_ne_true] at e ⊢; exact ⟨B, G0, G1, δ, c, S1, e, fun G2 H2 S2 g2 => k G2 H2 S2 (g1.trans g2)⟩
  | true => rw [if_pos rfl] at e ⊢; cases e; exact k G1 H1 S1 g1
theorem PWD.t {e : Expr} {f : BF'} (h : PWD X e f) : PTD X e f := PW.pt h
theorem ptd_not {a : Expr} {pos : Pos} {f : BF'} (h : PTD X a f) : PTD X (.UnaryOp .Not a pos) (bNot f) := PT.imp (pt_not h) fun σ H Q q => by
  obtain ⟨B, G0, G, δ, c, S, e, k⟩ := q
  obtain ⟨a, ea, e⟩ := Option.map_eq_some_iff.mp e
  subst e
  exact ⟨B, G0, G, δ, a, S, ea, k⟩
/-- and, or, not as values (bools) -/
def vAnd (f g : EF) : EF := fun δ => (bB f δ).bind fun a => if a = true then g δ else some (.sh (.bl false))
def vOr (f g : EF) : EF := fun δ => (bB f δ).bind fun a => if a = true then some (.sh (.bl true)) else g δ
def vNot (f : EF) : EF := fun δ => (bB f δ).map fun a => .sh (.bl (!a))
def vIf (c : BF') (f g : EF) : EF := fun δ => (c δ).bind fun a => if a = true then f δ else g δ
theorem pd_one {op} {a : Expr} {pos : Pos} {f : EF} (h : PD X a f) : PD X (.BoolOp op [a] pos) f := pe_one h
theorem run_bB {K : PySem.W.Frag} {B G0 G : Hp} {δ : List Sl} {σ : L2.St} {H : Hp} {r : Rs} {Q R : VK} {f : EF} {b : Bool} (k : KD K B G0 G δ σ H r Q) (e : bB f δ = some b) (h : ∀ G1 H1, KD K B G0 G1 δ σ H1 r Q → R (.bl b) H1) : tD K (fz f) σ H R := by
  obtain ⟨a, ea, e⟩ := Option.bind_eq_some_iff.mp e
  obtain ⟨ra, era, rfl⟩ := dt_some ea
  refine run1 k era fun x G1 H1 k1 g1 q1 => ?_
  have r1 := RsR.rep k1.sim q1
  rw [Rs.fz_dat, bl_some e] at r1
  unfold Rep at r1
  subst r1
  exact h G1 H1 k1
theorem pd_and {a b : Expr} {rest : List Expr} {pos : Pos} {f g : EF} (h : PD X a f) (h' : PD X (.BoolOp .And (b :: rest) pos) g) : PD X (.BoolOp .And (a :: b :: rest) pos) (vAnd f g) := PE.imp (pe_and h.fz h') fun σ H Q q => by
  obtain ⟨B, G0, G, δ, r, S, e, k⟩ := q
  obtain ⟨a, ea, e⟩ := Option.bind_eq_some_iff.mp e
  refine run_bB ⟨S, k⟩ ea fun G1 H1 k1 => ⟨a, rfl, ?_⟩
  cases a with
  | true => rw [if_pos rfl] at e ⊢; exact k1.tD e
  | false => rw [if_neg Bool.false_ne_true] at e ⊢; cases e; exact k1.now (rep_scal rfl)
theorem pd_or {a b : Expr} {rest : List Expr} {pos : Pos} {f g : EF} (h : PD X a f) (h' : PD X (.BoolOp .Or (b :: rest) pos) g) : PD X (.BoolOp .Or (a :: b :: rest) pos) (vOr f g) := PE.imp (pe_or h.fz h') fun σ H Q q => by
  obtain ⟨B, G0, G, δ, r, S, e, k⟩ := q
  obtain ⟨a, ea, e⟩ := Option.bind_eq_some_iff.mp e
  refine run_bB ⟨S, k⟩ ea fun G1 H1 k1 => ⟨a, rfl, ?_⟩
  cases a with
  | false => rw [if_neg Bool.false_ne_true] at e ⊢; exact k1.tD e
  | true => rw [if_pos rfl] at e ⊢; cases e; exact k1.now (rep_scal rfl)
theorem pd_not {a : Expr} {pos : Pos} {f : EF} (h : PD X a f) : PD X (.UnaryOp .Not a pos) (vNot f) := PE.imp (pe_not h.fz) fun σ H Q q => by
  obtain ⟨B, G0, G, δ, r, S, e, k⟩ := q
  obtain ⟨a, ea, e⟩ := Option.map_eq_some_iff.mp e
  subst e
  exact run_bB ⟨S, k⟩ ea fun G1 H1 k1 => ⟨a, rfl, k1.now (rep_scal rfl)⟩
theorem pd_if {c a b : Expr} {pos : Pos} {fc : BF'} {f g : EF} (hc : PTD X c fc) (h : PD X a f) (h' : PD X b g) : PD X (.IfExp c a b pos) (vIf fc f g) := PE.imp (pe_ifExp hc h h') fun σ H Q q => by
  obtain ⟨B, G0, G, δ, r, S, e, k⟩ := q
  obtain ⟨a, ea, e⟩ := Option.bind_eq_some_iff.mp e
  refine ⟨B, G0, G, δ, a, S, ea, fun G1 H1 S1 g1 => ?_⟩
  cases a with
  | true => rw [if_pos rfl] at e ⊢; exact (KD.step ⟨S, k⟩ S1 g1).tD e
  | false => rw [if_neg Bool.false_ne_true] at e ⊢; exact (KD.step ⟨S, k⟩ S1 g1).tD e

/-! ### argument lists -/
def evs : List EF → List Sl → Option (List Rs)
  | [], _ => some []
  | f :: r, δ => (f δ).bind fun a => (evs r δ).bind fun as => some (a.fz :: as)
def RsRs (K : PySem.W.Frag) (G H : Hp) (δ : List Sl) (σ : L2.St) : List Rs → List V → Prop
  | [], vs => vs = []
  | r :: rs, vs => ∃ v t, vs = v :: t ∧ r.still = true ∧ RsR K H G H δ σ r v ∧ RsRs K G H δ σ rs t
theorem RsRs.mono {K : PySem.W.Frag} {G G' H H' : Hp} {δ : List Sl} {σ : L2.St} (g : Same G G') : ∀ {rs : List Rs} {vs : List V}, RsRs K G H δ σ rs vs → RsRs K G' H' δ σ rs vs
  | [], _, h => h
  | r :: rs, _, h => by
    obtain ⟨v, t, e, s, q, h⟩ := h
    exact ⟨v, t, e, s, q.mono s g, RsRs.mono g h⟩
def tAD (K : PySem.W.Frag) (fs : List EF) : TA := fun σ H Q => ∃ B G0 G δ rs, Sim K B G0 G δ σ H ∧ evs fs δ = some rs ∧ ∀ vs G' H', Sim K B G0 G' δ σ H' → Gr G H G' H' → RsRs K G' H' δ σ rs vs → Q vs H'
def PAD (X : Cx) (es : List Expr) (fs : List EF) : Prop := PA X es (tAD X.K fs)
theorem PA.imp {es : List Expr} {t t' : TA} (h : PA X es t) (i : ∀ σ H Q, t' σ H Q → t σ H Q) : PA X es t' := fun pos pins s σ H Q I q => h pos pins s σ H Q I (i σ H Q q)
theorem pad_nil : PAD X [] [] := PA.imp pa_nil fun σ H Q h => by
  obtain ⟨B, G0, G, δ, rs, S, e, k⟩ := h
  cases e
  exact k [] G H S Gr.refl rfl
theorem pad_cons {e : Expr} {es : List Expr} {f : EF} {fs : List EF} (h : PD X e f) (hr : PAD X es fs) (hs : starEach (e :: es) X.env = (false, eval e X.env) :: starEach es X.env := by rfl) : PAD X (e :: es) (f :: fs) := PA.imp (pa_cons h.fz hr hs) fun σ H Q h => by
  obtain ⟨B, G0, G, δ, rs, S, e, k⟩ := h
  obtain ⟨ra, era, e⟩ := Option.bind_eq_some_iff.mp e
  obtain ⟨rs', ers, e⟩ := Option.bind_eq_some_iff.mp e
  cases e
  refine ⟨B, G0, G, δ, ra.fz, S, fz_some era, fun x G1 H1 S1 g1 q1 => ⟨B, G0, G1, δ, rs', S1, ers, fun vs G2 H2 S2 g2 q2 => ?_⟩⟩
  exact k (x :: vs) G2 H2 S2 (g1.trans g2) ⟨x, vs, rfl, ra.fz_still, q1.mono ra.fz_still g2.gg, q2⟩
def Rs.isSh : Rs → Bool
  | .sh _ => true
  | _ => false
theorem RsRs.reps {K : PySem.W.Frag} {B G0 G H : Hp} {δ : List Sl} {σ : L2.St} (S : Sim K B G0 G δ σ H) : ∀ {rs : List Rs} {vs : List V}, RsRs K G H δ σ rs vs → rs.all Rs.isSh = true → Reps K G (rs.map Rs.dat) vs
  | [], vs, h, _ => by unfold Reps; exact h
  | r :: rs, vs, h, a => by
    obtain ⟨v, t, e, s, q, h⟩ := h
    rw [List.all_cons, Bool.and_eq_true] at a
    subst e
    refine Reps.cons ?_ (RsRs.reps S h a.2)
    cases r with
    | sh d => exact q
    | ow ds => cases s
    | al i ds => exact absurd (show false = true from a.1) Bool.false_ne_true
    | ft pre es => exact absurd (show false = true from a.1) Bool.false_ne_true
theorem RsRs.repsH {K : PySem.W.Frag} {B G0 G H : Hp} {δ : List Sl} {σ : L2.St} (S : Sim K B G0 G δ σ H) : ∀ {rs : List Rs} {vs : List V}, RsRs K G H δ σ rs vs → Reps K H (rs.map Rs.dat) vs
  | [], vs, h => by unfold Reps; exact h
  | r :: rs, vs, h => by
    obtain ⟨v, t, e, s, q, h⟩ := h
    subst e
    exact Reps.cons (RsR.rep S q) (RsRs.repsH S h)
/-- displays -/
def fTup (fs : List EF) : EF := fun δ => (evs fs δ).bind fun rs => if rs.all Rs.isSh && decide (rs.length ≤ sizeLine) then some (.sh (.tup (rs.map Rs.dat))) else none
def fLst (fs : List EF) : EF := fun δ => (evs fs δ).bind fun rs => if rs.all Rs.isSh && decide (rs.length ≤ sizeLine) then some (.ow (rs.map Rs.dat)) else none
theorem pd_tup {es : List Expr} {x1} {pos : Pos} {fs : List EF} (h : PAD X es fs) : PD X (.Tuple es x1 pos) (fTup fs) := PE.imp (pe_tup h) fun σ H Q h => by
  obtain ⟨B, G0, G, δ, r, S, e, k⟩ := h
  obtain ⟨rs, ers, e⟩ := Option.bind_eq_some_iff.mp e
  by_cases hc : (rs.all Rs.isSh && decide (rs.length ≤ sizeLine)) = true
  · rw [if_pos hc] at e; cases e
    rw [Bool.and_eq_true] at hc
    refine ⟨B, G0, G, δ, rs, S, ers, fun vs G1 H1 S1 g1 q1 => ?_⟩
    have rp := RsRs.reps S1 q1 hc.1
    refine ⟨by rw [← rp.length, List.length_map]; exact of_decide_eq_true hc.2, fun p hp => (KD.step ⟨S, k⟩ S1 g1).newT rp hp⟩
  · rw [if_neg hc] at e; cases e
theorem pd_lst {es : List Expr} {pos : Pos} {fs : List EF} (h : PAD X es fs) : PD X (.List es pos) (fLst fs) := PE.imp (pe_lst h) fun σ H Q h => by
  obtain ⟨B, G0, G, δ, r, S, e, k⟩ := h
  obtain ⟨rs, ers, e⟩ := Option.bind_eq_some_iff.mp e
  by_cases hc : (rs.all Rs.isSh && decide (rs.length ≤ sizeLine)) = true
  · rw [if_pos hc] at e; cases e
    rw [Bool.and_eq_true] at hc
    refine ⟨B, G0, G, δ, rs, S, ers, fun vs G1 H1 S1 g1 q1 => ?_⟩
    have rp := RsRs.reps S1 q1 hc.1
    refine ⟨by rw [← rp.length, List.length_map]; exact of_decide_eq_true hc.2, fun p hp => (KD.step ⟨S, k⟩ S1 g1).newL rp hp⟩
  · rw [if_neg hc] at e; cases e

/-! ### calls of the program's own defs -/
/-- what comes back: r at v; H: the heap ahead -/
def Ret (K : PySem.W.Frag) (H G' H' : Hp) : Rs → V → Prop
  | .sh d, v => Rep K G' d v
  | .ow ds, v => ∃ p xs, v = .ref p ∧ H' p = some (.lst xs) ∧ G' p = none ∧ H p = none ∧ Reps K G' ds xs
  | .ft pre es, v => ∃ a p vs xs, v = .ref a ∧ H' a = some (.tup (vs ++ [.ref p])) ∧ H' p = some (.lst xs) ∧ G' a = none ∧ G' p = none ∧ H a = none ∧ H p = none ∧ Reps K G' pre vs ∧ Reps K G' es xs
  | .al _ _, _ => False
abbrev FD := List Dm → Option Rs
def spD (K : PySem.W.Frag) (F : FD) : Sp := fun vs H Q _ => ∃ G ds r, Same G H ∧ Reps K G ds vs ∧ F ds = some r ∧
  ∀ v G' H', Same H H' → Same G G' → Same G' H' → (∀ b, H b ≠ none → G' b = G b) → Ret K H G' H' r v → Q v H'
def Rs.scal : Rs → Bool
  | .sh d => d.scal
  | _ => false
def fCall (F : FD) (fs : List EF) : EF := fun δ => (evs fs δ).bind fun rs => (F (rs.map Rs.dat)).bind fun r => if rs.all Rs.isSh || r.scal then some r else none
theorem call_run {K : PySem.W.Frag} {F : FD} {fs : List EF} {σ : L2.St} {H : Hp} {Q : VK} {E : XK} (h : tD K (fCall F fs) σ H Q) : tAD K fs σ H fun vs H1 => spD K F vs H1 Q E := by
  obtain ⟨B, G0, G, δ, r, S, e, k⟩ := h
  obtain ⟨rs, ers, e⟩ := Option.bind_eq_some_iff.mp e
  obtain ⟨r1, e1, e⟩ := Option.bind_eq_some_iff.mp e
  refine ⟨B, G0, G, δ, rs, S, ers, fun vs G1 H1 S1 g1 q1 => ?_⟩
  have k1 := KD.step ⟨S, k⟩ S1 g1
  by_cases hsh : rs.all Rs.isSh = true
  · rw [hsh, Bool.true_or, if_pos rfl] at e
    cases e
    refine ⟨G1, _, r, S1.gh, RsRs.reps S1 q1 hsh, e1, fun v G' H' hh gg gh nw ret => ?_⟩
    have S' : Sim K B G0 G' δ σ H' := S1.ext ⟨gg, hh, nw⟩ gh
    refine k1.out v G' H' S' ⟨gg, hh, nw⟩ ?_
    cases r with
    | sh d => exact ret
    | al i ds => exact ret.elim
    | ow ds =>
      obtain ⟨p, xs, e1, e2, e3, e4, r⟩ := ret
      exact ⟨p, xs, e1, e2, e3, e4, r⟩
    | ft pre es => exact ret
  · by_cases hsc : r1.scal = true
    · rw [hsc, Bool.or_true, if_pos rfl] at e
      cases e
      refine ⟨H1, _, r, Same.refl H1, RsRs.repsH S1 q1, e1, fun v G' H' hh gg gh nw ret => ?_⟩
      cases r with
      | sh d =>
        have hv : Rep K G' d v := ret
        have hsc' : d.scal = true := hsc
        have hv2 : Rep K G1 d v := by
          cases d with
          | lst ds => exact absurd (show false = true from hsc') Bool.false_ne_true
          | tup ds => exact absurd (show false = true from hsc') Bool.false_ne_true
          | _ => unfold Rep at hv ⊢; exact hv
        exact k1.out v G1 H' (S1.grow hh) ⟨Same.refl G1, hh, fun _ _ => rfl⟩ hv2
      | al i ds => exact ret.elim
      | ow ds => exact absurd (show false = true from hsc) Bool.false_ne_true
      | ft pre es => exact absurd (show false = true from hsc) Bool.false_ne_true
    · have : (rs.all Rs.isSh || r1.scal) = false := by
        rw [Bool.or_eq_false_iff]; exact ⟨by simpa using hsh, by simpa using hsc⟩
      rw [this, if_neg Bool.false_ne_true] at e; cases e
theorem pd_call {x : Str} {f : Addr} {fd : FuncData} {ps : List Str} {k : Nat} {F : FD} {p pos : Pos} {e : Expr} {es : List Expr} {fs : List EF} (G : FnOk X.prog X.w X.K X.mg X.base CX0 k f fd ps (spD X.K F)) (hr : Room k X.A) (hg : Gl X x) (hm : X.mg x = some (.ref f)) (hk : PySem.W.keepIn X.K (.ref f) = true)
    (hb : Binds X.K fd ps []) (ha : PAD X (e :: es) fs) (hdb : (x == ("__debug__" : Str)) = false := by decide +kernel) (he : starEach (e :: es) X.env = (false, eval e X.env) :: starEach es X.env := by rfl) (hpl : (backTo pos (starEach es X.env)).any (·.1) = false := by rfl) : PD X (.Call (.Name x p) (e :: es) [] pos) (fCall F fs) :=
  PE.imp (pe_call G hr hg hm hk hb .nil pass0 ha hdb he hpl) fun σ H Q h => by
    have := call_run (E := E0) h
    show tAD X.K fs σ H fun vs H1 => spD X.K F (vs ++ []) H1 Q E0
    simpa using this
theorem pd_call0 {x : Str} {f : Addr} {fd : FuncData} {ps : List Str} {k : Nat} {F : FD} {p pos : Pos} (G : FnOk X.prog X.w X.K X.mg X.base CX0 k f fd ps (spD X.K F)) (hr : Room k X.A) (hg : Gl X x) (hm : X.mg x = some (.ref f)) (hk : PySem.W.keepIn X.K (.ref f) = true)
    (hb : Binds X.K fd ps []) (hdb : (x == ("__debug__" : Str)) = false := by decide +kernel) : PD X (.Call (.Name x p) [] [] pos) (fCall F []) :=
  PE.imp (pe_call0 G hr hg hm hk hb .nil pass0 hdb) fun σ H Q h => by
    obtain ⟨B, G0, G, δ, rs, S, e, k⟩ := call_run (E := E0) h
    cases e
    exact k [] G H S Gr.refl rfl
end
end BF
set_option Elab.async false
set_option linter.all false
set_option maxRecDepth 100000
set_option maxHeartbeats 4000000
namespace BF
open PySem PySem.Spec L2
noncomputable section
variable {X : Cx}

/-! ### built-in calls with a scalar out -/
def fB (o : List Dm → Option Dm) (fs : List EF) : EF := fun δ => (evs fs δ).bind fun rs => (o (rs.map Rs.dat)).map .sh
def CallS (K : PySem.W.Frag) (r : List V → Hp → VK → Prop) (o : List Dm → Option Dm) : Prop := ∀ vs H ds d Q, Reps K H ds vs → o ds = some d → d.scal = true ∧ (Q (vOf d) H → r vs H Q)
theorem fB_run {K : PySem.W.Frag} {r : List V → Hp → VK → Prop} {o : List Dm → Option Dm} {fs : List EF} (hs : CallS K r o) {σ : L2.St} {H : Hp} {Q : VK} (h : tD K (fB o fs) σ H Q) : tAD K fs σ H fun vs H1 => r vs H1 Q := by
  obtain ⟨B, G0, G, δ, r0, S, e, k⟩ := h
  obtain ⟨rs, ers, e⟩ := Option.bind_eq_some_iff.mp e
  obtain ⟨d, ed, e⟩ := Option.map_eq_some_iff.mp e
  subst e
  refine ⟨B, G0, G, δ, rs, S, ers, fun vs G1 H1 S1 g1 q1 => ?_⟩
  obtain ⟨sc, go⟩ := hs vs H1 _ d Q (RsRs.repsH S1 q1) ed
  exact go ((KD.step ⟨S, k⟩ S1 g1).now (rep_scal sc))
section
variable {x : Str} {p pos : Pos} {e : Expr} {es : List Expr} {fs : List EF} {id T : String} {r : List V → Hp → VK → Prop} {o : List Dm → Option Dm}
theorem pd_bi (hc : CallR X (.builtin id) r) (hs : CallS X.K r o) (hg : Gl X x) (hm : X.mg x = none) (hv : bootBuiltins x = some (.builtin id)) (ha : PAD X (e :: es) fs) (hn : x ≠ "__name__" := by decide +kernel) (hdb : (x == ("__debug__" : Str)) = false := by decide +kernel)
    (he : starEach (e :: es) X.env = (false, eval e X.env) :: starEach es X.env := by rfl) (hpl : (backTo pos (starEach es X.env)).any (·.1) = false := by rfl) : PD X (.Call (.Name x p) (e :: es) [] pos) (fB o fs) :=
  PE.imp (pe_callB hc hg hm hv ha hn hdb he hpl) fun _ _ _ h => fB_run hs h
theorem pd_ty (hc : CallR X (.type T) r) (hs : CallS X.K r o) (hg : Gl X x) (hm : X.mg x = none) (hv : bootBuiltins x = some (.type T)) (ha : PAD X (e :: es) fs) (hn : x ≠ "__name__" := by decide +kernel) (hdb : (x == ("__debug__" : Str)) = false := by decide +kernel)
    (he : starEach (e :: es) X.env = (false, eval e X.env) :: starEach es X.env := by rfl) (hpl : (backTo pos (starEach es X.env)).any (·.1) = false := by rfl) : PD X (.Call (.Name x p) (e :: es) [] pos) (fB o fs) :=
  PE.imp (pe_callTy hc hg hm hv ha hn hdb he hpl) fun _ _ _ h => fB_run hs h
end
theorem reps1 {K : PySem.W.Frag} {H : Hp} {d : Dm} {vs : List V} (h : Reps K H [d] vs) : ∃ v, vs = [v] ∧ Rep K H d v := by
  unfold Reps at h
  obtain ⟨v, r, e, q, t⟩ := h
  unfold Reps at t
  subst t
  exact ⟨v, e, q⟩
theorem reps2 {K : PySem.W.Frag} {H : Hp} {d c : Dm} {vs : List V} (h : Reps K H [d, c] vs) : ∃ v u, vs = [v, u] ∧ Rep K H d v ∧ Rep K H c u := by
  unfold Reps at h
  obtain ⟨v, r, e, q, t⟩ := h
  obtain ⟨u, e', q'⟩ := reps1 t
  subst e'
  exact ⟨v, u, e, q, q'⟩
def oLen : List Dm → Option Dm
  | [.lst ds] => some (.int ds.length)
  | [.tup ds] => some (.int ds.length)
  | [.str z] => if z.length ≤ sizeLine then some (.int z.length) else none
  | _ => none
theorem cs_len {K : PySem.W.Frag} : CallS K (fun xs H Q => ∃ x n, xs = [x] ∧ LenV K x H n ∧ Q (.int n) H) oLen := by
  intro vs H ds d Q h e
  unfold oLen at e
  split at e
  · cases e
    obtain ⟨v, rfl, q⟩ := reps1 h
    unfold Rep at q
    obtain ⟨a, xs, rfl, hq, rr⟩ := q
    exact ⟨rfl, fun k => ⟨_, _, rfl, .inl ⟨xs, hq, rr.length⟩, k⟩⟩
  · cases e
    obtain ⟨v, rfl, q⟩ := reps1 h
    unfold Rep at q
    obtain ⟨a, xs, rfl, hq, rr⟩ := q
    exact ⟨rfl, fun k => ⟨_, _, rfl, .inr ⟨xs, hq, rr.length⟩, k⟩⟩
  · split at e
    · rename_i hz
      cases e
      obtain ⟨v, rfl, q⟩ := reps1 h
      unfold Rep at q
      subst q
      exact ⟨rfl, fun k => ⟨_, _, rfl, ⟨hz, rfl⟩, k⟩⟩
    · cases e
  · cases e
def oMin : List Dm → Option Dm
  | [.int i, .int j] => some (.int (if j < i then j else i))
  | _ => none
theorem cs_min {K : PySem.W.Frag} : CallS K (fun xs H Q => ∃ i j, xs = [.int i, .int j] ∧ Q (.int (if j < i then j else i)) H) oMin := by
  intro vs H ds d Q h e
  unfold oMin at e
  split at e
  · cases e
    obtain ⟨v, u, rfl, q, q'⟩ := reps2 h
    unfold Rep at q q'
    subst q q'
    exact ⟨rfl, fun k => ⟨_, _, rfl, k⟩⟩
  · cases e
def ints? : List Dm → Option (List Int)
  | [] => some []
  | d :: ds => d.int?.bind fun i => (ints? ds).map fun r => i :: r
theorem ints_some : ∀ {ds : List Dm} {ns : List Int}, ints? ds = some ns → ds = ns.map .int
  | [], ns, e => by cases e; rfl
  | d :: ds, ns, e => by
    obtain ⟨i, ei, e⟩ := Option.bind_eq_some_iff.mp (show (d.int?.bind fun i => (ints? ds).map fun r => i :: r) = some ns from e)
    obtain ⟨r, er, e⟩ := Option.map_eq_some_iff.mp e
    subst e
    rw [int_some ei, ints_some er]; rfl
theorem reps_ints {K : PySem.W.Frag} {H : Hp} : ∀ {ns : List Int} {xs : List V}, Reps K H (ns.map .int) xs → xs = ns.map .int
  | [], xs, h => by unfold List.map Reps at h; exact h
  | n :: ns, xs, h => by
    unfold List.map Reps at h
    obtain ⟨v, r, e, q, t⟩ := h
    unfold Rep at q
    rw [e, q, reps_ints t]; rfl
def oSum : List Dm → Option Dm
  | [.lst ds] => (ints? ds).map fun ns => .int ns.sum
  | _ => none
theorem cs_sum {K : PySem.W.Frag} : CallS K (rSum K) oSum := by
  intro vs H ds d Q h e
  unfold oSum at e
  split at e
  · obtain ⟨ns, en, e⟩ := Option.map_eq_some_iff.mp e
    subst e
    obtain ⟨v, rfl, q⟩ := reps1 h
    unfold Rep at q
    obtain ⟨a, xs, rfl, hq, rr⟩ := q
    rw [ints_some en] at rr
    exact ⟨rfl, fun k => ⟨a, ns, rfl, by rw [← reps_ints rr]; exact hq, k⟩⟩
  · cases e
/-- isinstance(e, T) -/
def fIsi (f : EF) (c : String) : EF := fun δ => (dt f δ).map fun d => .sh (.bl (isTy d c))
theorem pd_isi {e : Expr} {f : EF} {T : Str} {c : String} {p p2 pos : Pos} (h : PD X e f) (hc : c = "int" ∨ c = "bool" ∨ c = "str" ∨ c = "list" ∨ c = "tuple") (hg : Gl X "isinstance") (hm : X.mg "isinstance" = none) (hv : bootBuiltins "isinstance" = some (.builtin "isinstance"))
    (hgT : Gl X T) (hmT : X.mg T = none) (hvT : bootBuiltins T = some (.type c)) (hnT : T ≠ "__name__" := by decide +kernel) (hdT : (T == ("__debug__" : Str)) = false := by decide +kernel) (he : starEach [e, .Name T p2] X.env = (false, eval e X.env) :: starEach [.Name T p2] X.env := by rfl) : PD X (.Call (.Name "isinstance" p) [e, .Name T p2] [] pos) (fIsi f c) := by
  refine PE.imp (pe_callB call_isi hg hm hv (pa_cons h.fz (pa_cons (pe_bltn (v := .ty c) hgT hmT hvT rfl hnT hdT) pa_nil) he) (by decide +kernel) (by decide +kernel) he) fun σ H Q h => ?_
  obtain ⟨B, G0, G, δ, r0, S, e, k⟩ := h
  obtain ⟨d, ed, e⟩ := Option.map_eq_some_iff.mp e
  subst e
  obtain ⟨ra, era, rfl⟩ := dt_some ed
  refine run1 ⟨S, k⟩ era fun x G1 H1 k1 g1 q1 => ?_
  have r1 := RsR.rep k1.sim q1
  rw [Rs.fz_dat] at r1
  exact ⟨x, _, c, rfl, r1, hc, k1.now (rep_scal rfl)⟩
/-- list(e): a copy -/
def Dm.seq? : Dm → Option (List Dm)
  | .lst ds => some ds
  | .tup ds => some ds
  | _ => none
def fList (f : EF) : EF := fun δ => (dt f δ).bind fun d => d.seq?.map .ow
theorem RsRs.one {K : PySem.W.Frag} {G H : Hp} {δ : List Sl} {σ : L2.St} {r : Rs} {vs : List V} (h : RsRs K G H δ σ [r] vs) : ∃ v, vs = [v] ∧ RsR K H G H δ σ r v := by
  obtain ⟨v, t, e, _, q, h⟩ := h
  have h' : t = [] := h
  subst h'
  exact ⟨v, e, q⟩
theorem pd_list {e : Expr} {f : EF} {p pos : Pos} (h : PD X e f) (hg : Gl X "list") (hm : X.mg "list" = none) (hv : bootBuiltins "list" = some (.type "list")) (he : starEach [e] X.env = (false, eval e X.env) :: starEach [] X.env := by rfl) : PD X (.Call (.Name "list" p) [e] [] pos) (fList f) := by
  refine PE.imp (pe_callTy call_list_of hg hm hv (pad_cons h pad_nil he) (by decide +kernel) (by decide +kernel) he) fun σ H Q h => ?_
  obtain ⟨B, G0, G, δ, r0, S, e, k⟩ := h
  obtain ⟨d, ed, e⟩ := Option.bind_eq_some_iff.mp e
  obtain ⟨ds, eds, e⟩ := Option.map_eq_some_iff.mp e
  subst e
  obtain ⟨ra, era, rfl⟩ := dt_some ed
  refine ⟨B, G0, G, δ, [ra.fz], S, by unfold evs evs; rw [era]; rfl, fun vs G1 H1 S1 g1 q1 => ?_⟩
  obtain ⟨v, rfl, q⟩ := RsRs.one q1
  have k1 := KD.step ⟨S, k⟩ S1 g1
  cases hd : ra.dat with
  | lst es =>
    rw [hd] at eds; cases eds
    obtain ⟨a, xs, rfl, hq, rr⟩ := RsR.lst S1 q (by rw [Rs.fz_dat]; exact hd)
    exact ⟨a, xs, rfl, .inl hq, fun l hl => k1.newL rr hl⟩
  | tup es =>
    rw [hd] at eds; cases eds
    obtain ⟨a, xs, rfl, hq, rr⟩ := RsR.tup S1 q (by cases ra <;> rfl) (by rw [Rs.fz_dat]; exact hd)
    exact ⟨a, xs, rfl, .inr hq, fun l hl => k1.newL rr hl⟩
  | non => rw [hd] at eds; cases eds
  | bl b => rw [hd] at eds; cases eds
  | int i => rw [hd] at eds; cases eds
  | str z => rw [hd] at eds; cases eds

/-! ### statements -/
inductive Fl where
  | nx (δ : List Sl) | rt (r : Rs) | bk (δ : List Sl) | ct (δ : List Sl)
abbrev SF := List Sl → Option Fl
def EndOk (K : PySem.W.Frag) (B G0 G : Hp) (D : Ends) : Fl → Prop
  | .nx δ' => ∀ G' σ' H', Sim K B G0 G' δ' σ' H' → Same G G' → D.nx σ' H'
  | .bk δ' => ∀ G' σ' H', Sim K B G0 G' δ' σ' H' → Same G G' → D.bk σ' H'
  | .ct δ' => ∀ G' σ' H', Sim K B G0 G' δ' σ' H' → Same G G' → D.ct σ' H'
  | .rt r => ∀ δ' G' σ' H' v, Sim K B G0 G' δ' σ' H' → Same G G' → Ret K B G' H' r v → D.rt v H'
theorem EndOk.mono {K : PySem.W.Frag} {B G0 G G1 : Hp} {D : Ends} (g : Same G G1) : ∀ {fl : Fl}, EndOk K B G0 G D fl → EndOk K B G0 G1 D fl
  | .nx _, h => fun G' σ' H' S g' => h G' σ' H' S (g.trans g')
  | .bk _, h => fun G' σ' H' S g' => h G' σ' H' S (g.trans g')
  | .ct _, h => fun G' σ' H' S g' => h G' σ' H' S (g.trans g')
  | .rt _, h => fun δ' G' σ' H' v S g' => h δ' G' σ' H' v S (g.trans g')
def tSD (K : PySem.W.Frag) (g : SF) : TS := fun D σ H => ∃ B G0 G δ fl, Sim K B G0 G δ σ H ∧ g δ = some fl ∧ EndOk K B G0 G D fl
def PSD (X : Cx) (st : Stmt) (g : SF) : Prop := PS X st (tSD X.K g)
def PSsD (X : Cx) (st : List Stmt) (g : SF) : Prop := PSs X st (tSD X.K g)
def gNil : SF := fun δ => some (.nx δ)
def gNever : SF := fun _ => none
def gSeq (g1 g2 : SF) : SF := fun δ => (g1 δ).bind fun fl => match fl with
  | .nx δ' => g2 δ'
  | fl => some fl
theorem psd_nil : PSsD X [] gNil := PSs.imp pss_nil fun D σ H h => by
  obtain ⟨B, G0, G, δ, fl, S, e, k⟩ := h
  cases e
  exact k G σ H S (Same.refl G)
theorem psd_cons {st : Stmt} {rest : List Stmt} {g1 g2 : SF} (h1 : PSD X st g1) (h2 : PSsD X rest g2) : PSsD X (st :: rest) (gSeq g1 g2) := PSs.imp (pss_cons h1 h2) fun D σ H h => by
  obtain ⟨B, G0, G, δ, fl, S, e, k⟩ := h
  obtain ⟨f1, e1, e⟩ := Option.bind_eq_some_iff.mp e
  refine ⟨B, G0, G, δ, f1, S, e1, ?_⟩
  cases f1 with
  | nx δ' => exact fun G' σ' H' S' g' => ⟨B, G0, G', δ', fl, S', e, k.mono g'⟩
  | rt r => cases e; exact k
  | bk δ' => cases e; exact k
  | ct δ' => cases e; exact k
theorem psd_one {st : Stmt} {g : SF} (h : PSD X st g) : PSsD X [st] g := pss_one h
theorem psd_never {st : Stmt} : PSD X st gNever := PS.imp ps_never fun D σ H h => by
  obtain ⟨B, G0, G, δ, fl, S, e, k⟩ := h
  cases e
theorem pssd_never {st : List Stmt} : PSsD X st gNever := PSs.imp pss_never fun D σ H h => by
  obtain ⟨B, G0, G, δ, fl, S, e, k⟩ := h
  cases e
theorem psd_pass {pos : Pos} : PSD X (.Pass pos) gNil := PS.imp ps_pass fun D σ H h => by
  obtain ⟨B, G0, G, δ, fl, S, e, k⟩ := h
  cases e
  exact k G σ H S (Same.refl G)
def gBreak : SF := fun δ => some (.bk δ)
def gCont : SF := fun δ => some (.ct δ)
theorem psd_break {pos : Pos} : PSD X (.Break pos) gBreak := PS.imp ps_break fun D σ H h => by
  obtain ⟨B, G0, G, δ, fl, S, e, k⟩ := h
  cases e
  exact k G σ H S (Same.refl G)
theorem psd_cont {pos : Pos} : PSD X (.Continue pos) gCont := PS.imp ps_continue fun D σ H h => by
  obtain ⟨B, G0, G, δ, fl, S, e, k⟩ := h
  cases e
  exact k G σ H S (Same.refl G)
def gIf (c : BF') (g1 g2 : SF) : SF := fun δ => (c δ).bind fun b => if b = true then g1 δ else g2 δ
theorem psd_if {c : Expr} {a b : List Stmt} {pos : Pos} {fc : BF'} {g1 g2 : SF} (hc : PTD X c fc) (ha : PSsD X a g1) (hb : PSsD X b g2) : PSD X (.If c a b pos) (gIf fc g1 g2) := PS.imp (ps_if hc ha hb) fun D σ H h => by
  obtain ⟨B, G0, G, δ, fl, S, e, k⟩ := h
  obtain ⟨b, eb, e⟩ := Option.bind_eq_some_iff.mp e
  refine ⟨B, G0, G, δ, b, S, eb, fun G1 H1 S1 g1 => ?_⟩
  cases b with
  | true => rw [if_pos rfl] at e ⊢; exact ⟨B, G0, G1, δ, fl, S1, e, k.mono g1.gg⟩
  | false => rw [if_neg Bool.false_ne_true] at e ⊢; exact ⟨B, G0, G1, δ, fl, S1, e, k.mono g1.gg⟩
/-- return -/
def Rs.out : Rs → Rs
  | .al _ ds => .ow ds
  | r => r
def gRet (f : EF) : SF := fun δ => (f δ).map fun r => .rt r.out
theorem psd_ret {e : Expr} {pos : Pos} {f : EF} (h : PD X e f) : PSD X (.Return (some e) pos) (gRet f) := PS.imp (ps_ret h) fun D σ H h => by
  obtain ⟨B, G0, G, δ, fl, S, e, k⟩ := h
  obtain ⟨r, er, e⟩ := Option.map_eq_some_iff.mp e
  subst e
  refine ⟨B, G0, G, δ, r, S, er, fun v G1 H1 S1 g1 q => ?_⟩
  refine k δ G1 σ H1 v S1 g1.gg ?_
  cases r with
  | sh d => exact q
  | ow ds =>
    obtain ⟨p, xs, e1, e2, e3, e4, rr⟩ := q
    exact ⟨p, xs, e1, e2, e3, S.b_free e4, rr⟩
  | al i ds =>
    obtain ⟨h1, h2⟩ := q
    obtain ⟨p, xs, e1, e2, e3, e4, rr⟩ := S1.slot i _ h1
    rw [h2] at e1
    exact ⟨p, xs, by injection e1 with e1; injection e1, e2, e3, e4, rr⟩
  | ft pre es =>
    obtain ⟨a, p, vs, xs, e1, e2, e3, e4, e5, e6, e7, rr⟩ := q
    exact ⟨a, p, vs, xs, e1, e2, e3, e4, e5, S.b_free e6, S.b_free e7, rr⟩
def gRetN : SF := fun _ => some (.rt (.sh .non))
theorem psd_retN {pos : Pos} : PSD X (.Return none pos) gRetN := PS.imp ps_retN fun D σ H h => by
  obtain ⟨B, G0, G, δ, fl, S, e, k⟩ := h
  cases e
  exact k δ G σ H .non S (Same.refl G) (show Rep X.K G .non .non from rep_scal (d := .non) rfl)
/-- a slot is set -/
theorem Sim.set {K : PySem.W.Frag} {B G0 G H : Hp} {δ : List Sl} {σ : L2.St} (S : Sim K B G0 G δ σ H) (i : Nat) {s : Sl} {v : V} (hs : SlR K B G H s (some (some v))) (hn : ∀ ds p, s = .ow ds → v = .ref p → NS δ σ p) : Sim K B G0 G (δ.set i s) (σ.set i (some v)) H := by
  have own : ∀ (j : Nat) (t : Sl), (δ.set i s)[j]? = some t → (j = i ∧ t = s ∧ (σ.set i (some v))[j]? = some (some v)) ∨ (j ≠ i ∧ δ[j]? = some t ∧ (σ.set i (some v))[j]? = σ[j]?) := fun j t h => by
    by_cases hj : j = i
    · subst hj
      have hlt : j < δ.length := by
        have := (List.getElem?_eq_some_iff.mp h).1
        simpa using this
      rw [List.getElem?_set_self hlt] at h
      exact .inl ⟨rfl, (Option.some.inj h).symm, List.getElem?_set_self (by rw [← S.len]; exact hlt)⟩
    · rw [List.getElem?_set_ne (Ne.symm hj)] at h
      exact .inr ⟨hj, h, List.getElem?_set_ne (Ne.symm hj)⟩
  refine ⟨by rw [List.length_set, List.length_set, S.len], S.bh, S.g0, S.gh, S.gb, fun j t h => ?_, fun a b ds es p hab ha hb ea eb => ?_⟩
  · rcases own j t h with ⟨_, rfl, e⟩ | ⟨_, h1, e⟩
    · rw [e]; exact hs
    · rw [e]; exact S.slot j t h1
  · rcases own a _ ha with ⟨rfl, q1, e1⟩ | ⟨n1, h1, e1⟩
    · rcases own b _ hb with ⟨rfl, _, _⟩ | ⟨n2, h2, e2⟩
      · exact hab rfl
      · rw [e1] at ea
        have ev : v = .ref p := by injection ea with ea; injection ea
        exact hn ds p q1.symm ev b es h2 (e2 ▸ eb)
    · rcases own b _ hb with ⟨rfl, q2, e2⟩ | ⟨n2, h2, e2⟩
      · rw [e2] at eb
        have ev : v = .ref p := by injection eb with eb; injection eb
        exact hn es p q2.symm ev a ds h1 (e1 ▸ ea)
      · exact S.disj a b ds es p hab h1 h2 (e1 ▸ ea) (e2 ▸ eb)
def Rs.sl : Rs → Option Sl
  | .sh d => some (.sh d)
  | .ow ds => some (.ow ds)
  | .al _ _ => none
  | .ft _ _ => none
/-- name = e, a list of its own stays one -/
def gSet (i : Nat) (f : EF) : SF := fun δ => (f δ).bind fun r => r.sl.map fun s => .nx (δ.set i s)
theorem set_run {K : PySem.W.Frag} {i : Nat} {f : EF} {D : Ends} {σ : L2.St} {H : Hp} (h : tSD K (gSet i f) D σ H) : tAsg (tD K f) (gName i) D σ H := by
  obtain ⟨B, G0, G, δ, fl, S, e, k⟩ := h
  obtain ⟨r, er, e⟩ := Option.bind_eq_some_iff.mp e
  obtain ⟨s, es, e⟩ := Option.map_eq_some_iff.mp e
  subst e
  refine ⟨B, G0, G, δ, r, S, er, fun v G1 H1 S1 g1 q => k G1 _ H1 ?_ g1.gg⟩
  cases r with
  | sh d => cases es; exact S1.set i ⟨v, rfl, q⟩ fun _ _ z => by cases z
  | al j ds => cases es
  | ft pre fs => cases es
  | ow ds =>
    cases es
    obtain ⟨p, xs, rfl, e2, e3, e4, rr⟩ := q
    exact S1.set i ⟨p, xs, rfl, e2, e3, S.b_free e4, rr⟩ fun _ p' _ z => by cases z; exact S.ns_of_free e4
theorem psd_set {i : Nat} {x : Str} {e : Expr} {f : EF} {pos pos' : Pos} (hN : X.N.Nodup) (hi : X.N[i]? = some x) (hx : Loc X.env.scope x) (h : PD X e f) (hs : swapsWith e (some (.Name x pos')) pos.line X.env = pure false := by rfl) (hf : X.fn x = true ∨ X.env.scope.names.lookup x = some .local := by first | exact .inl rfl | exact .inr rfl | assumption) : PSD X (.Assign [.Name x pos'] e pos) (gSet i f) :=
  PS.imp (ps_set hN hi hx h hs hf) fun _ _ _ q => set_run q
/-- an own list joins the view ahead of a statement -/
def frz (i : Nat) (δ : List Sl) : List Sl := match δ[i]? with
  | some (.ow ds) => δ.set i (.sh (.lst ds))
  | _ => δ
theorem Sim.frz {K : PySem.W.Frag} {B G0 G H : Hp} {δ : List Sl} {σ : L2.St} (S : Sim K B G0 G δ σ H) (i : Nat) : ∃ G', Same G G' ∧ Sim K B G0 G' (frz i δ) σ H := by
  unfold BF.frz
  cases q : δ[i]? with
  | none => exact ⟨G, Same.refl G, S⟩
  | some s =>
    cases s with
    | un => exact ⟨G, Same.refl G, S⟩
    | sh d => exact ⟨G, Same.refl G, S⟩
    | so C d => exact ⟨G, Same.refl G, S⟩
    | pt p k d => exact ⟨G, Same.refl G, S⟩
    | xc C => exact ⟨G, Same.refl G, S⟩
    | ow ds =>
      obtain ⟨p, xs, e1, e2, e3, e4, r⟩ := S.slot i _ q
      refine ⟨upd G p (.lst xs), Same.upd_new e3, ?_⟩
      have hlt : i < δ.length := (List.getElem?_eq_some_iff.mp q).1
      have own : ∀ (j : Nat) (t : Sl), (δ.set i (.sh (.lst ds)))[j]? = some t → (j = i ∧ t = .sh (.lst ds)) ∨ (j ≠ i ∧ δ[j]? = some t) := fun j t h => by
        by_cases hj : j = i
        · subst hj
          rw [List.getElem?_set_self hlt] at h
          exact .inl ⟨rfl, (Option.some.inj h).symm⟩
        · rw [List.getElem?_set_ne (Ne.symm hj)] at h
          exact .inr ⟨hj, h⟩
      refine ⟨by show (δ.set i (.sh (.lst ds))).length = σ.length; rw [List.length_set, S.len], S.bh, S.g0.trans (Same.upd_new e3), fun b u e => ?_, fun b hb => ?_, fun j t h => ?_, fun a b es fs q' hab ha hb ea eb => ?_⟩
      · by_cases z : b = p
        · subst z; rw [upd_same] at e; rw [e2]; exact e
        · rw [upd_ne z] at e; exact S.gh b u e
      · rw [upd_ne (by rintro rfl; exact hb e4)]; exact S.gb b hb
      · rcases own j t h with ⟨rfl, rfl⟩ | ⟨hj, h1⟩
        · refine ⟨.ref p, e1, ?_⟩
          unfold Rep
          exact ⟨p, xs, rfl, SqL.of upd_same, r.mono (Same.upd_new e3)⟩
        · have z := S.slot j t h1
          cases t with
          | un => trivial
          | sh d => obtain ⟨v, ev, rv⟩ := z; exact ⟨v, ev, rv.mono (Same.upd_new e3)⟩
          | ow es =>
            obtain ⟨q', ys, f1, f2, f3, f4, rr⟩ := z
            refine ⟨q', ys, f1, f2, ?_, f4, rr.mono (Same.upd_new e3)⟩
            rw [upd_ne (by rintro rfl; exact S.disj j i es ds _ hj h1 q f1 e1)]; exact f3
          | so C d => obtain ⟨v, ev, rv, zz⟩ := z; exact ⟨v, ev, rv, zz.trans (Same.upd_new e3)⟩
          | pt p' k d => obtain ⟨v, ys, ev, rv, zz, tt, l⟩ := z; exact ⟨v, ys, ev, rv.mono (Same.upd_new e3), Same.upd_new e3 _ _ zz, tt.mono (Same.upd_new e3), l⟩
          | xc C => obtain ⟨a, ev, zz⟩ := z; exact ⟨a, ev, zz.mono (Same.upd_new e3)⟩
      · rcases own a _ ha with ⟨_, z⟩ | ⟨_, h1⟩
        · cases z
        · rcases own b _ hb with ⟨_, z⟩ | ⟨_, h2⟩
          · cases z
          · exact S.disj a b es fs q' hab h1 h2 ea eb
def gFrz (is : List Nat) (g : SF) : SF := fun δ => g (is.foldl (fun δ i => frz i δ) δ)
theorem frz_all {K : PySem.W.Frag} {B G0 H : Hp} {σ : L2.St} : ∀ (is : List Nat) {G : Hp} {δ : List Sl}, Sim K B G0 G δ σ H → ∃ G', Same G G' ∧ Sim K B G0 G' (is.foldl (fun δ i => frz i δ) δ) σ H
  | [], G, δ, S => ⟨G, Same.refl G, S⟩
  | i :: is, G, δ, S => by
    obtain ⟨G1, g1, S1⟩ := S.frz i
    obtain ⟨G2, g2, S2⟩ := frz_all is S1
    exact ⟨G2, g1.trans g2, S2⟩
theorem tSD_frz {K : PySem.W.Frag} {is : List Nat} {g : SF} {D : Ends} {σ : L2.St} {H : Hp} (h : tSD K (gFrz is g) D σ H) : tSD K g D σ H := by
  obtain ⟨B, G0, G, δ, fl, S, e, k⟩ := h
  obtain ⟨G', g', S'⟩ := frz_all is S
  exact ⟨B, G0, G', _, fl, S', e, k.mono g'⟩
theorem psd_frz {st : List Stmt} {g : SF} (is : List Nat) (h : PSsD X st g) : PSsD X st (gFrz is g) := PSs.imp h fun _ _ _ q => tSD_frz q
/-- the own list of slot i is written -/
theorem Sim.write {K : PySem.W.Frag} {B G0 G H : Hp} {δ : List Sl} {σ : L2.St} (S : Sim K B G0 G δ σ H) {i : Nat} {ds es : List Dm} {p : Addr} {ys : List V} (h : δ[i]? = some (.ow ds)) (hp : σ[i]? = some (some (.ref p))) (r : Reps K G es ys) : Sim K B G0 G (δ.set i (.ow es)) σ (upd H p (.lst ys)) := by
  obtain ⟨p', xs, e1, e2, e3, e4, _⟩ := S.slot i _ h
  rw [hp] at e1
  obtain rfl : p = p' := by injection e1 with e1; injection e1 with e1; injection e1
  have hlt : i < δ.length := (List.getElem?_eq_some_iff.mp h).1
  have own : ∀ (j : Nat) (t : Sl), (δ.set i (.ow es))[j]? = some t → (j = i ∧ t = .ow es) ∨ (j ≠ i ∧ δ[j]? = some t) := fun j t h => by
    by_cases hj : j = i
    · subst hj
      rw [List.getElem?_set_self hlt] at h
      exact .inl ⟨rfl, (Option.some.inj h).symm⟩
    · rw [List.getElem?_set_ne (Ne.symm hj)] at h
      exact .inr ⟨hj, h⟩
  refine ⟨by rw [List.length_set, S.len], fun b u e => ?_, S.g0, fun b u e => ?_, S.gb, fun j t hj => ?_, fun a b fs gs q hab ha hb ea eb => ?_⟩
  · rw [upd_ne (ne_of_none e e4)]; exact S.bh b u e
  · rw [upd_ne (ne_of_none e e3)]; exact S.gh b u e
  · rcases own j t hj with ⟨rfl, rfl⟩ | ⟨n, h1⟩
    · exact ⟨p, ys, hp, upd_same, e3, e4, r⟩
    · have z := S.slot j t h1
      cases t with
      | un => trivial
      | sh d => exact z
      | ow fs =>
        obtain ⟨q, zs, f1, f2, f3, f4, rr⟩ := z
        refine ⟨q, zs, f1, ?_, f3, f4, rr⟩
        rw [upd_ne (by rintro rfl; exact S.disj j i fs ds _ n h1 h f1 hp)]; exact f2
      | so C d => exact z
      | pt p' k d => exact z
      | xc C => exact z
  · have h1 : ∃ fs', δ[a]? = some (.ow fs') := by
      rcases own a _ ha with ⟨rfl, _⟩ | ⟨_, h1⟩
      · exact ⟨_, h⟩
      · exact ⟨_, h1⟩
    have h2 : ∃ fs', δ[b]? = some (.ow fs') := by
      rcases own b _ hb with ⟨rfl, _⟩ | ⟨_, h2⟩
      · exact ⟨_, h⟩
      · exact ⟨_, h2⟩
    obtain ⟨_, h1⟩ := h1
    obtain ⟨_, h2⟩ := h2
    exact S.disj a b _ _ q hab h1 h2 ea eb
def own? (i : Nat) (δ : List Sl) : Option (List Dm) := match δ[i]? with
  | some (.ow ds) => some ds
  | _ => none
theorem own_some {i : Nat} {δ : List Sl} {ds : List Dm} (e : own? i δ = some ds) : δ[i]? = some (.ow ds) := by
  unfold own? at e
  cases q : δ[i]? with
  | none => rw [q] at e; cases e
  | some s =>
    rw [q] at e
    cases s with
    | un => cases e
    | sh d => cases e
    | so C d => cases e
    | pt p k d => cases e
    | xc C => cases e
    | ow es => cases e; rfl
/-- name.append(e) -/
def gApp (i : Nat) (f : EF) : SF := fun δ => (own? i δ).bind fun ds => (fz f δ).bind fun r => if r.isSh && decide (ds.length < sizeLine) then some (.nx (δ.set i (.ow (ds ++ [r.dat])))) else none
theorem psd_app (i : Nat) {x : Str} {e : Expr} {f : EF} {p apos cpos pos : Pos} (hv : PE X (.Name x p) (tVar i)) (h : PD X e f) (hbase : attributeBase (.Name x p) "append" X.env (eval (.Name x p) X.env) = eval (.Name x p) X.env := by rfl)
    (hfew : ((backTo cpos (starEach [e] X.env)).all (fun x => !x.1) && (backToKw cpos (keywordEach [] X.env)).all (fun x => x.1.isSome) && decide ([e].length + ([] : List Keyword).length + (if ([] : List Keyword).isEmpty then 0 else 1) < 30)) = true := by rfl)
    (hline : (apos.endLine == cpos.line) = true := by rfl) (hs : starEach [e] X.env = (false, eval e X.env) :: starEach [] X.env := by rfl) (hsw : swapsWith (.Call (.Attribute (.Name x p) "append" apos) [e] [] cpos) none pos.line X.env = pure false := by rfl) :
    PSD X (.Expr (.Call (.Attribute (.Name x p) "append" apos) [e] [] cpos) pos) (gApp i f) := by
  refine PS.imp (ps_expr (pe_bm PySem.F.plainAttrs_list PySem.F.slot_list_append PySem.F.type_list_append mt_append hv (pad_cons h pad_nil hs) hbase hfew hline hs) hsw) fun D σ H h => ?_
  obtain ⟨B, G0, G, δ, fl, S, e, k⟩ := h
  obtain ⟨ds, eds, e⟩ := Option.bind_eq_some_iff.mp e
  obtain ⟨r, er, e⟩ := Option.bind_eq_some_iff.mp e
  have ho := own_some eds
  obtain ⟨p, xs, e1, e2, e3, e4, rr⟩ := S.slot i _ ho
  by_cases hc : (r.isSh && decide (ds.length < sizeLine)) = true
  · rw [if_pos hc] at e
    cases e
    rw [Bool.and_eq_true] at hc
    refine ⟨_, e1, .inl ⟨rfl, xs, SqL.of e2⟩, B, G0, G, δ, [r], S, ?_, fun vs G1 H1 S1 g1 q1 => ?_⟩
    · unfold fz at er
      obtain ⟨r0, er0, er⟩ := Option.map_eq_some_iff.mp er
      unfold evs evs
      rw [er0, ← er]; rfl
    · obtain ⟨v, rfl, q⟩ := RsRs.one q1
      cases r with
      | ow _ => exact absurd (show false = true from hc.1) Bool.false_ne_true
      | al _ _ => exact absurd (show false = true from hc.1) Bool.false_ne_true
      | ft _ _ => exact absurd (show false = true from hc.1) Bool.false_ne_true
      | sh d =>
        have hq : Rep X.K G1 d v := q
        have e2' := g1.hh _ _ e2
        have rr1 := rr.mono g1.gg
        refine ⟨p, xs, v, rfl, rfl, e2', by rw [← rr.length]; exact of_decide_eq_true hc.2, ?_⟩
        exact k G1 σ _ (S1.write ho e1 (rr1.append (Reps.cons hq Reps.nil))) g1.gg
  · rw [if_neg hc] at e; cases e
/-- a call whose value is dropped (nothing is changed by it) -/
def gDrop (f : EF) : SF := fun δ => (f δ).map fun _ => .nx δ
theorem psd_drop {e : Expr} {f : EF} {pos : Pos} (h : PD X e f) (hs : swapsWith e none pos.line X.env = pure false := by rfl) : PSD X (.Expr e pos) (gDrop f) := PS.imp (ps_expr h hs) fun D σ H h => by
  obtain ⟨B, G0, G, δ, fl, S, e, k⟩ := h
  obtain ⟨r, er, e⟩ := Option.map_eq_some_iff.mp e
  subst e
  exact ⟨B, G0, G, δ, r, S, er, fun v G1 H1 S1 g1 _ => k G1 σ H1 S1 g1.gg⟩
end
end BF
set_option Elab.async false
set_option linter.all false
set_option maxRecDepth 100000
set_option maxHeartbeats 4000000
namespace BF
open PySem PySem.Spec L2
noncomputable section
variable {X : Cx}

/-! ### what is walked -/
abbrev IF := List Sl → Option (List Dm)
def JD (K : PySem.W.Frag) (J : It) (ds : List Dm) (G : Hp) : Prop := ∀ (i : Nat) (H G1 : Hp), Same G G1 → Same G1 H →
  (∀ d, ds[i]? = some d → J.go i H ∧ ∀ x H', J.yld i H x H' → ∃ G2, Gr G1 H G2 H' ∧ Same G2 H' ∧ Rep K G2 d x) ∧ (ds.length ≤ i → J.stop i H)
def tI (K : PySem.W.Frag) (src : IF) : TI := fun σ H R => ∃ B G0 G δ ds, Sim K B G0 G δ σ H ∧ src δ = some ds ∧ ∀ J G' H', Sim K B G0 G' δ σ H' → Gr G H G' H' → JD K J ds G' → R J H'
def PID (X : Cx) (tg e : Expr) (src : IF) : Prop := PI X tg e (tI X.K src)
theorem PI.imp {tg e : Expr} {t t' : TI} (h : PI X tg e t) (i : ∀ σ H Q, t' σ H Q → t σ H Q) : PI X tg e t' := fun pins s σ H R I q => h pins s σ H R I (i σ H R q)
def shl? : Rs → Option (List Dm)
  | .sh (.lst ds) => some ds
  | _ => none
def sht? : Rs → Option (List Dm)
  | .sh (.tup ds) => some ds
  | _ => none
theorem shl_some {r : Rs} {ds : List Dm} (e : shl? r = some ds) : r = .sh (.lst ds) := by
  unfold shl? at e; split at e
  · cases e; rfl
  · cases e
theorem sht_some {r : Rs} {ds : List Dm} (e : sht? r = some ds) : r = .sh (.tup ds) := by
  unfold sht? at e; split at e
  · cases e; rfl
  · cases e
def iL (f : EF) : IF := fun δ => (fz f δ).bind shl?
def iT (f : EF) : IF := fun δ => (fz f δ).bind sht?
theorem jd_list {K : PySem.W.Frag} {G : Hp} {a : Addr} {xs : List V} {ds : List Dm} (hq : SqL K G a xs) (rr : Reps K G ds xs) : JD K (Itl K a) ds G := by
  intro i H G1 g1 g2
  have hq1 := g2.seq (g1.seq hq)
  refine ⟨fun d hd => ?_, fun hi => ⟨xs, hq1, by rw [← rr.length]; exact hi⟩⟩
  obtain ⟨v, hv, rv⟩ := rr.get hd
  refine ⟨⟨xs, v, hq1, hv⟩, fun x H' y => ?_⟩
  obtain ⟨rfl, y⟩ := y
  have := y xs hq1
  rw [hv] at this
  cases this
  exact ⟨G1, Gr.refl, g2, rv.mono g1⟩
theorem jd_tup {K : PySem.W.Frag} {G : Hp} {a : Addr} {xs : List V} {ds : List Dm} (hq : SqT K G a xs) (rr : Reps K G ds xs) : JD K (Itt K a) ds G := by
  intro i H G1 g1 g2
  have hq1 := Same.seqT g2 (Same.seqT g1 hq)
  refine ⟨fun d hd => ?_, fun hi => ⟨xs, hq1, by rw [← rr.length]; exact hi⟩⟩
  obtain ⟨v, hv, rv⟩ := rr.get hd
  refine ⟨⟨xs, v, hq1, hv⟩, fun x H' y => ?_⟩
  obtain ⟨rfl, y⟩ := y
  have := y xs hq1
  rw [hv] at this
  cases this
  exact ⟨G1, Gr.refl, g2, rv.mono g1⟩
theorem pi_l {tg e : Expr} {f : EF} (h : PD X e f) : PID X tg e (iL f) := PI.imp (pi_list h.fz) fun σ H R q => by
  obtain ⟨B, G0, G, δ, ds, S, e, k⟩ := q
  obtain ⟨r, er, e⟩ := Option.bind_eq_some_iff.mp e
  rw [shl_some e] at er
  refine ⟨B, G0, G, δ, _, S, er, fun v G1 H1 S1 g1 q1 => ?_⟩
  have q1' : Rep X.K G1 (.lst ds) v := q1
  unfold Rep at q1'
  obtain ⟨a, xs, rfl, hq, rr⟩ := q1'
  exact ⟨a, rfl, ⟨xs, S1.gh.seq hq⟩, k _ G1 H1 S1 g1 (jd_list hq rr)⟩
theorem pi_t {tg e : Expr} {f : EF} (h : PD X e f) : PID X tg e (iT f) := PI.imp (pi_tup h.fz) fun σ H R q => by
  obtain ⟨B, G0, G, δ, ds, S, e, k⟩ := q
  obtain ⟨r, er, e⟩ := Option.bind_eq_some_iff.mp e
  rw [sht_some e] at er
  refine ⟨B, G0, G, δ, _, S, er, fun v G1 H1 S1 g1 q1 => ?_⟩
  have q1' : Rep X.K G1 (.tup ds) v := q1
  unfold Rep at q1'
  obtain ⟨a, xs, rfl, hq, rr⟩ := q1'
  exact ⟨a, rfl, ⟨xs, Same.seqT S1.gh hq⟩, k _ G1 H1 S1 g1 (jd_tup hq rr)⟩
def rng (lo : Int) (n : Nat) : List Dm := (List.range n).map fun (k : Nat) => .int (lo + (k : Int))
theorem jd_rng {K : PySem.W.Frag} {G : Hp} {lo : Int} {n : Nat} : JD K (Itr lo n) (rng lo n) G := by
  intro i H G1 g1 g2
  have hl : (rng lo n).length = n := by unfold rng; simp
  refine ⟨fun d hd => ?_, fun hi => by rw [hl] at hi; exact hi⟩
  have hin : i < n := by rw [← hl]; exact (List.getElem?_eq_some_iff.mp hd).1
  refine ⟨hin, fun x H' y => ?_⟩
  obtain ⟨rfl, rfl⟩ := y
  refine ⟨G1, Gr.refl, g2, ?_⟩
  have : (rng lo n)[i]? = some (.int (lo + (i : Int))) := by unfold rng; simp [hin]
  rw [this] at hd
  cases hd
  unfold Rep; rfl
def okR (j : Int) : Bool := okB (-(2 ^ 62) ≤ j ∧ j < 2 ^ 62)
def iR (f : EF) : IF := fun δ => (dt f δ).bind fun d => d.int?.bind fun j => if okR j then some (rng 0 j.toNat) else none
def iR2 (f g : EF) : IF := fun δ => (dt f δ).bind fun d => d.int?.bind fun i => (dt g δ).bind fun d => d.int?.bind fun j => if okR i && okR j then some (rng i (j - i).toNat) else none
theorem pi_r {tg a : Expr} {f : EF} {p pos : Pos} (h : PD X a f) (hg : Gl X "range") (hm : X.mg "range" = none) (hs : starEach [a] X.env = [(false, eval a X.env)] := by rfl) : PID X tg (.Call (.Name "range" p) [a] [] pos) (iR f) := PI.imp (pi_range1 hg hm (pad_cons h pad_nil hs) hs) fun σ H R q => by
  obtain ⟨B, G0, G, δ, ds, S, e, k⟩ := q
  obtain ⟨d, ed, e⟩ := Option.bind_eq_some_iff.mp e
  obtain ⟨ra, era, rfl⟩ := dt_some ed
  obtain ⟨j, ej, e⟩ := Option.bind_eq_some_iff.mp e
  by_cases hc : okR j = true
  · rw [if_pos hc] at e; cases e
    have hc := okB_iff.mp hc
    refine ⟨B, G0, G, δ, [ra.fz], S, by unfold evs evs; rw [era]; rfl, fun vs G1 H1 S1 g1 q1 => ?_⟩
    obtain ⟨v, rfl, q⟩ := RsRs.one q1
    have r1 := RsR.rep S1 q
    rw [Rs.fz_dat, int_some ej] at r1
    unfold Rep at r1
    subst r1
    exact ⟨j, rfl, hc.1, hc.2, k _ G1 H1 S1 g1 jd_rng⟩
  · rw [if_neg hc] at e; cases e
theorem pi_r2 {tg a b : Expr} {f g : EF} {p pos : Pos} (h : PD X a f) (h' : PD X b g) (hg : Gl X "range") (hm : X.mg "range" = none) (hs : starEach [a, b] X.env = [(false, eval a X.env), (false, eval b X.env)] := by rfl) (hs2 : starEach [b] X.env = [(false, eval b X.env)] := by rfl) (hs1 : starEach [a, b] X.env = (false, eval a X.env) :: starEach [b] X.env := by rfl) : PID X tg (.Call (.Name "range" p) [a, b] [] pos) (iR2 f g) := PI.imp (pi_range2 hg hm (pad_cons h (pad_cons h' pad_nil hs2) hs1) hs hs2) fun σ H R q => by
  obtain ⟨B, G0, G, δ, ds, S, e, k⟩ := q
  obtain ⟨d, ed, e⟩ := Option.bind_eq_some_iff.mp e
  obtain ⟨ra, era, rfl⟩ := dt_some ed
  obtain ⟨i, ei, e⟩ := Option.bind_eq_some_iff.mp e
  obtain ⟨d', ed', e⟩ := Option.bind_eq_some_iff.mp e
  obtain ⟨rb, erb, rfl⟩ := dt_some ed'
  obtain ⟨j, ej, e⟩ := Option.bind_eq_some_iff.mp e
  by_cases hc : (okR i && okR j) = true
  · rw [if_pos hc] at e; cases e
    unfold okR at hc
    simp only [Bool.and_eq_true, okB_iff] at hc
    refine ⟨B, G0, G, δ, [ra.fz, rb.fz], S, by unfold evs evs evs; rw [era, erb]; rfl, fun vs G1 H1 S1 g1 q1 => ?_⟩
    obtain ⟨v, t, rfl, _, q, q1⟩ := q1
    obtain ⟨u, rfl, q'⟩ := RsRs.one q1
    have r1 := RsR.rep S1 q
    have r2 := RsR.rep S1 q'
    rw [Rs.fz_dat, int_some ei] at r1
    rw [Rs.fz_dat, int_some ej] at r2
    unfold Rep at r1 r2
    subst r1 r2
    exact ⟨i, j, rfl, ⟨hc.1.1, hc.1.2, hc.2.1, hc.2.2⟩, k _ G1 H1 S1 g1 jd_rng⟩
  · rw [if_neg hc] at e; cases e
def enumD (ds : List Dm) : List Dm := (List.range ds.length).map fun (k : Nat) => .tup [.int (k : Int), ds.getD k .non]
theorem jd_enum {K : PySem.W.Frag} {G : Hp} {a : Addr} {xs : List V} {ds : List Dm} (hq : SqL K G a xs) (rr : Reps K G ds xs) : JD K (Ite K a) (enumD ds) G := by
  intro i H G1 g1 g2
  have hq1 := g2.seq (g1.seq hq)
  have hl : (enumD ds).length = ds.length := by unfold enumD; simp
  refine ⟨fun d hd => ?_, fun hi => ⟨xs, hq1, by rw [← rr.length, ← hl]; exact hi⟩⟩
  have hin : i < ds.length := by rw [← hl]; exact (List.getElem?_eq_some_iff.mp hd).1
  have hdi : ds[i]? = some ds[i] := List.getElem?_eq_getElem hin
  obtain ⟨v, hv, rv⟩ := rr.get hdi
  refine ⟨⟨xs, v, hq1, hv⟩, fun x H' y => ?_⟩
  obtain ⟨t, ht, rfl, y, rfl, hy⟩ := y
  have := hy xs hq1
  rw [hv] at this
  cases this
  have g1t : G1 t = none := g2.free ht
  refine ⟨upd G1 t (.tup [.int i, v]), ⟨Same.upd_new g1t, Same.upd_new ht, fun b hb => upd_ne (by rintro rfl; exact hb ht)⟩, fun b u e => ?_, ?_⟩
  · by_cases z : b = t
    · subst z; rw [upd_same] at e ⊢; exact e
    · rw [upd_ne z] at e ⊢; exact g2 b u e
  · have e2 : (enumD ds)[i]? = some (.tup [.int (i : Int), ds[i]]) := by unfold enumD; simp [hin]
    rw [e2] at hd
    cases hd
    unfold Rep
    exact ⟨t, _, rfl, SqT.of upd_same, Reps.cons (by unfold Rep; rfl) (Reps.cons (rv.mono (g1.trans (Same.upd_new g1t))) Reps.nil)⟩
def iE (f : EF) : IF := fun δ => (fz f δ).bind fun r => (shl? r).map enumD
theorem pi_e {a : Expr} {f : EF} {p pos : Pos} {elts : List Expr} {x1 : Nat} {tp : Pos} (h : PD X a f) (hg : Gl X "enumerate") (hm : X.mg "enumerate" = none) (hb : bootBuiltins "enumerate" = some (.type "enumerate")) (hs : starEach [a] X.env = [(false, eval a X.env)] := by rfl) :
    PID X (.Tuple elts x1 tp) (.Call (.Name "enumerate" p) [a] [] pos) (iE f) := PI.imp (pi_enum hg hm hb (pad_cons h pad_nil hs) hs) fun σ H R q => by
  obtain ⟨B, G0, G, δ, ds, S, e, k⟩ := q
  obtain ⟨r, er, e⟩ := Option.bind_eq_some_iff.mp e
  obtain ⟨es, ees, e⟩ := Option.map_eq_some_iff.mp e
  subst e
  rw [shl_some ees] at er
  unfold fz at er
  obtain ⟨r0, er0, er⟩ := Option.map_eq_some_iff.mp er
  refine ⟨B, G0, G, δ, [r0.fz], S, by unfold evs evs; rw [er0]; rfl, fun vs G1 H1 S1 g1 q1 => ?_⟩
  obtain ⟨v, rfl, q⟩ := RsRs.one q1
  rw [er] at q
  have q1' : Rep X.K G1 (.lst es) v := q
  unfold Rep at q1'
  obtain ⟨a, xs, rfl, hq, rr⟩ := q1'
  exact ⟨a, rfl, ⟨xs, S1.gh.seq hq⟩, k _ G1 H1 S1 g1 (jd_enum hq rr)⟩

/-! ### targets -/
inductive Tg where
  | nm (i : Nat) | tp (is : List Nat)
def Tg.slots : Tg → List Nat
  | .nm i => [i]
  | .tp is => is
def setTs : List Nat → List Dm → List Sl → Option (List Sl)
  | [], [], δ => some δ
  | i :: is, d :: ds, δ => setTs is ds (δ.set i (.sh d))
  | _, _, _ => none
def setT : Tg → Dm → List Sl → Option (List Sl)
  | .nm i, d, δ => some (δ.set i (.sh d))
  | .tp is, .tup ds, δ => setTs is ds δ
  | _, _, _ => none
def tGD (K : PySem.W.Frag) (t : Tg) : TG := fun v σ H Q => ∃ B G0 G δ d δ', Sim K B G0 G δ σ H ∧ Rep K G d v ∧ setT t d δ = some δ' ∧ ∀ σ', Sim K B G0 G δ' σ' H → (∀ j, j ∉ t.slots → σ'[j]? = σ[j]?) → Q σ' H
def tGsD (K : PySem.W.Frag) (is : List Nat) : TGs := fun vs σ H Q => ∃ B G0 G δ ds δ', Sim K B G0 G δ σ H ∧ Reps K G ds vs ∧ setTs is ds δ = some δ' ∧ ∀ σ', Sim K B G0 G δ' σ' H → (∀ j, j ∉ is → σ'[j]? = σ[j]?) → Q σ' H
def PGD (X : Cx) (tg : Expr) (t : Tg) : Prop := PG X tg (tGD X.K t)
def PGsD (X : Cx) (ts : List Expr) (is : List Nat) : Prop := PGs X ts (tGsD X.K is)
theorem PG.imp {tg : Expr} {t t' : TG} (h : PG X tg t) (i : ∀ v σ H Q, t' v σ H Q → t v σ H Q) : PG X tg t' := fun pins s σ H v u Q I r q => h pins s σ H v u Q I r (i v σ H Q q)
theorem PGs.imp {tg : List Expr} {t t' : TGs} (h : PGs X tg t) (i : ∀ v σ H Q, t' v σ H Q → t v σ H Q) : PGs X tg t' := fun pins s σ H v u Q I r q => h pins s σ H v u Q I r (i v σ H Q q)
theorem pg_n (i : Nat) {x : Str} {pos : Pos} (hN : X.N.Nodup) (hi : X.N[i]? = some x := by rfl) (hx : Loc X.env.scope x := by first | exact Or.inl rfl | exact Or.inr rfl) (hf : X.fn x = true ∨ X.env.scope.names.lookup x = some .local := by first | exact .inl rfl | exact .inr rfl | assumption) : PGD X (.Name x pos) (.nm i) :=
  PG.imp (pg_name hN hi hx hf) fun v σ H Q h => by
    obtain ⟨B, G0, G, δ, d, δ', S, r, e, k⟩ := h
    cases e
    exact k _ (S.set i ⟨v, rfl, r⟩ fun _ _ z => by cases z) fun j hj => List.getElem?_set_ne (fun z => hj (by rw [z]; exact List.mem_singleton_self _))
theorem pgs_n : PGsD X [] [] := PGs.imp pgs_nil fun vs σ H Q h => by
  obtain ⟨B, G0, G, δ, ds, δ', S, r, e, k⟩ := h
  cases ds with
  | cons d ds => cases e
  | nil =>
    cases e
    unfold Reps at r
    exact ⟨r, k σ S fun _ _ => rfl⟩
theorem pgs_c (i : Nat) {x : Str} {pos : Pos} {es : List Expr} {is : List Nat} (h2 : PGsD X es is) (hN : X.N.Nodup) (hi : X.N[i]? = some x := by rfl) (hx : Loc X.env.scope x := by first | exact Or.inl rfl | exact Or.inr rfl) (hf : X.fn x = true ∨ X.env.scope.names.lookup x = some .local := by first | exact .inl rfl | exact .inr rfl | assumption)
    (hs : (assignEach (.Name x pos :: es) X.env).map (·.2) = assign (.Name x pos) X.env :: (assignEach es X.env).map (·.2) := by rfl) : PGsD X (.Name x pos :: es) (i :: is) := PGs.imp (pgs_cons (pg_name hN hi hx hf) h2 hs) fun vs σ H Q h => by
  obtain ⟨B, G0, G, δ, ds, δ', S, r, e, k⟩ := h
  cases ds with
  | nil => cases e
  | cons d ds =>
    unfold Reps at r
    obtain ⟨v, t, rfl, rv, rt⟩ := r
    refine ⟨v, t, rfl, B, G0, G, _, ds, δ', S.set i (s := .sh d) ⟨v, rfl, rv⟩ (fun _ _ z => by cases z), rt, e, fun σ' S' hk => k σ' S' fun j hj => ?_⟩
    rw [hk j fun z => hj (List.mem_cons_of_mem _ z)]
    exact List.getElem?_set_ne fun z => hj (by rw [z]; exact List.mem_cons_self)
theorem pg_t {es : List Expr} {k : Nat} {is : List Nat} {pos : Pos} (hc : X.calm = true) (h : PGsD X es is) (hn : (assignEach es X.env).length = is.length := by rfl) (hst : (assignEach es X.env).findIdx? (·.1) = none := by rfl) : PGD X (.Tuple es k pos) (.tp is) := PG.imp (pg_tup hc h hn hst) fun v σ H Q h => by
  obtain ⟨B, G0, G, δ, d, δ', S, r, e, k⟩ := h
  have lenTs : ∀ {is : List Nat} {ds : List Dm} {δ δ' : List Sl}, setTs is ds δ = some δ' → ds.length = is.length := by
    intro is
    induction is with
    | nil => intro ds δ δ' e; cases ds with | nil => rfl | cons d ds => cases e
    | cons i is ih => intro ds δ δ' e; cases ds with | nil => cases e | cons d ds => rw [List.length_cons, List.length_cons, ih e]
  cases d with
  | tup ds =>
    have e' : setTs is ds δ = some δ' := e
    unfold Rep at r
    obtain ⟨a, xs, rfl, hq, rr⟩ := r
    exact ⟨a, xs, rfl, Same.seqT S.gh hq, by rw [← rr.length, lenTs e'], B, G0, G, δ, ds, δ', S, rr, e', k⟩
  | non => cases e
  | bl b => cases e
  | int i => cases e
  | str z => cases e
  | lst ds => cases e

/-! ### for -/
def loopD (t : Tg) (b : SF) : List Dm → List Sl → Option Fl
  | [], δ => some (.nx δ)
  | d :: r, δ => (setT t d δ).bind fun δ1 => (b δ1).bind fun fl => match fl with
    | .nx δ' => loopD t b r δ'
    | .ct δ' => loopD t b r δ'
    | .bk δ' => some (.nx δ')
    | .rt r => some (.rt r)
def gFor (src : IF) (t : Tg) (b : SF) : SF := fun δ => (src δ).bind fun ds => loopD t b ds δ
theorem psd_for {tg iter : Expr} {body : List Stmt} {pos : Pos} {src : IF} {t : Tg} {b : SF} (hp : PassesOwn (model X.prog X.w) X.A X.env X.xe) (hc : X.calm = true) (hi : PID X tg iter src) (hg : PGD X tg t) (hb : PSsD X body b)
    (hs : ∀ x, foldedSetIterable iter X.env x = pure x := by intro _; rfl) : PSD X (.For tg iter body [] pos) (gFor src t b) := PS.imp (ps_for hp hc hi hg hb hs) fun D σ H h => by
  obtain ⟨B, G0, G, δ, fl, S, e, k⟩ := h
  obtain ⟨ds, eds, e⟩ := Option.bind_eq_some_iff.mp e
  refine ⟨B, G0, G, δ, ds, S, eds, fun J G1 H1 S1 g1 jd => ?_⟩
  refine ⟨fun i m σ H => m = ds.length - i ∧ i ≤ ds.length ∧ ∃ G2 δ, Sim X.K B G0 G2 δ σ H ∧ Same G1 G2 ∧ loopD t b (ds.drop i) δ = some fl, ⟨ds.length, by simp, Nat.zero_le _, G1, δ, S1, Same.refl G1, e⟩, ?_⟩
  rintro i m σ2 H2 ⟨rfl, hi, G2, δ2, S2, g2, e2⟩
  obtain ⟨jg, js⟩ := jd i H2 G2 g2 S2.gh
  by_cases hlt : i < ds.length
  · have hd : ds[i]? = some ds[i] := List.getElem?_eq_getElem hlt
    obtain ⟨go, yl⟩ := jg _ hd
    rw [List.drop_eq_getElem_cons hlt] at e2
    obtain ⟨δ3, e3, e2⟩ := Option.bind_eq_some_iff.mp (show ((setT t ds[i] δ2).bind fun δ1 => (b δ1).bind fun fl => match fl with
      | .nx δ' => loopD t b (ds.drop (i + 1)) δ'
      | .ct δ' => loopD t b (ds.drop (i + 1)) δ'
      | .bk δ' => some (.nx δ')
      | .rt r => some (.rt r)) = some fl from e2)
    obtain ⟨f4, e4, e2⟩ := Option.bind_eq_some_iff.mp e2
    refine .inr ⟨go, fun σ' H' => ∃ G5 δ5, Sim X.K B G0 G5 δ5 σ' H' ∧ Same G1 G5 ∧ loopD t b (ds.drop (i + 1)) δ5 = some fl, fun σ' H' h => ⟨ds.length - (i + 1), by omega, rfl, hlt, h⟩, fun x H3 y => ?_⟩
    obtain ⟨G3, g3, gh3, rx⟩ := yl x H3 y
    refine ⟨B, G0, G3, δ2, ds[i], δ3, S2.ext g3 gh3, rx, e3, fun σ4 S4 _ => ⟨B, G0, G3, δ3, f4, S4, e4, ?_⟩⟩
    have g13 : Same G1 G3 := g2.trans g3.gg
    cases f4 with
    | nx δ' => exact fun G' σ' H' S' g' => ⟨G', δ', S', g13.trans g', e2⟩
    | ct δ' => exact fun G' σ' H' S' g' => ⟨G', δ', S', g13.trans g', e2⟩
    | bk δ' => cases e2; exact fun G' σ' H' S' g' => k G' σ' H' S' (g1.gg.trans (g13.trans g'))
    | rt r => cases e2; exact fun δ' G' σ' H' v S' g' q => k δ' G' σ' H' v S' (g1.gg.trans (g13.trans g')) q
  · have hi' : i = ds.length := Nat.le_antisymm hi (Nat.not_lt.mp hlt)
    subst hi'
    rw [List.drop_length] at e2
    cases e2
    exact .inl ⟨js (Nat.le_refl _), k G2 σ2 H2 S2 (g1.gg.trans g2)⟩

/-! ### comprehensions -/
def subS (ix : List (Option Nat)) (δ : List Sl) : List Sl := ix.map fun o => match o with
  | some i => (δ[i]?).getD .un
  | none => .un
def Inj (ix : List (Option Nat)) : Prop := ∀ j ∈ List.range ix.length, ∀ k ∈ List.range ix.length, ix.getD j none ≠ none → ix.getD j none = ix.getD k none → j = k
instance (ix : List (Option Nat)) : Decidable (Inj ix) := by unfold Inj; infer_instance
theorem sub_at {α : Type} {ix : List (Option Nat)} {σ : List (Option α)} {j : Nat} : (sub ix σ)[j]? = (ix[j]?).map fun o => match o with | some i => (σ[i]?).join | none => none := by
  unfold sub; rw [List.getElem?_map]; try rfl
theorem subS_at {ix : List (Option Nat)} {δ : List Sl} {j : Nat} : (subS ix δ)[j]? = (ix[j]?).map fun o => match o with | some i => (δ[i]?).getD .un | none => .un := by
  unfold subS; rw [List.getElem?_map]
/-- where a block's slot that is not unknown comes from -/
theorem subS_from {ix : List (Option Nat)} {δ : List Sl} {j : Nat} {s : Sl} (h : (subS ix δ)[j]? = some s) (hs : s ≠ .un) : ∃ i, ix[j]? = some (some i) ∧ δ[i]? = some s := by
  rw [subS_at] at h
  obtain ⟨o, eo, h⟩ := Option.map_eq_some_iff.mp h
  cases o with
  | none => exact absurd h.symm hs
  | some i =>
    refine ⟨i, eo, ?_⟩
    have h' : (δ[i]?).getD .un = s := h
    cases q : δ[i]? with
    | none => rw [q] at h'; exact absurd h'.symm hs
    | some t => rw [q] at h'; exact congrArg some h'
theorem Sim.sub {K : PySem.W.Frag} {B G0 G H : Hp} {δ : List Sl} {σ : L2.St} (S : Sim K B G0 G δ σ H) {ix : List (Option Nat)} (inj : Inj ix) : Sim K B G0 G (subS ix δ) (sub ix σ) H := by
  have fromσ : ∀ {j i : Nat} {v : V}, ix[j]? = some (some i) → σ[i]? = some (some v) → (BF.sub ix σ)[j]? = some (some v) := fun {j i v} e q => by
    rw [sub_at, e]
    show some ((σ[i]?).join) = _
    rw [q]; rfl
  refine ⟨by unfold subS BF.sub; rw [List.length_map, List.length_map], S.bh, S.g0, S.gh, S.gb, fun j s h => ?_, fun a b ds es p hab ha hb ea eb => ?_⟩
  · cases s with
    | un => trivial
    | sh d =>
      obtain ⟨i, e1, e2⟩ := subS_from h (by intro z; cases z)
      obtain ⟨v, e3, r⟩ := S.slot i _ e2
      exact ⟨v, fromσ e1 e3, r⟩
    | ow ds =>
      obtain ⟨i, e1, e2⟩ := subS_from h (by intro z; cases z)
      obtain ⟨p, xs, e3, r⟩ := S.slot i _ e2
      exact ⟨p, xs, fromσ e1 e3, r⟩
    | so C d =>
      obtain ⟨i, e1, e2⟩ := subS_from h (by intro z; cases z)
      obtain ⟨v, e3, r⟩ := S.slot i _ e2
      exact ⟨v, fromσ e1 e3, r⟩
    | pt p k d =>
      obtain ⟨i, e1, e2⟩ := subS_from h (by intro z; cases z)
      obtain ⟨v, xs, e3, r⟩ := S.slot i _ e2
      exact ⟨v, xs, fromσ e1 e3, r⟩
    | xc C =>
      obtain ⟨i, e1, e2⟩ := subS_from h (by intro z; cases z)
      obtain ⟨a, e3, r⟩ := S.slot i _ e2
      exact ⟨a, fromσ e1 e3, r⟩
  · obtain ⟨i, e1, e2⟩ := subS_from ha (by intro z; cases z)
    obtain ⟨j, f1, f2⟩ := subS_from hb (by intro z; cases z)
    obtain ⟨p1, xs1, e3, _⟩ := S.slot i _ e2
    obtain ⟨p2, xs2, f3, _⟩ := S.slot j _ f2
    rw [fromσ e1 e3] at ea
    rw [fromσ f1 f3] at eb
    have z1 : p1 = p := by injection ea with ea; injection ea with ea; injection ea
    have z2 : p2 = p := by injection eb with eb; injection eb with eb; injection eb
    subst z1 z2
    by_cases hij : i = j
    · subst hij
      refine hab (inj a (List.mem_range.mpr (List.getElem?_eq_some_iff.mp e1).1) b (List.mem_range.mpr (List.getElem?_eq_some_iff.mp f1).1) ?_ ?_)
      · rw [List.getD_eq_getElem?_getD, e1]; simp
      · rw [List.getD_eq_getElem?_getD, List.getD_eq_getElem?_getD, e1, f1]
    · exact S.disj i j _ _ _ hij e2 f2 e3 f3
def mapD (t : Tg) (f : EF) (δ : List Sl) : List Dm → Option (List Dm)
  | [] => some []
  | d :: r => (setT t d δ).bind fun δ1 => (fz f δ1).bind fun y => if y.isSh then (mapD t f δ r).map fun ys => y.dat :: ys else none
def fComp (src : IF) (t : Tg) (ix : List (Option Nat)) (f : EF) : EF := fun δ => (src δ).bind fun ds => if ds.length ≤ sizeLine then (mapD t f (subS ix δ) ds).map .ow else none
theorem mapD_length {t : Tg} {f : EF} {δ : List Sl} : ∀ {ds ys : List Dm}, mapD t f δ ds = some ys → ys.length = ds.length
  | [], ys, e => by cases e; rfl
  | d :: r, ys, e => by
    obtain ⟨δ1, e1, e⟩ := Option.bind_eq_some_iff.mp (show ((setT t d δ).bind fun δ1 => (fz f δ1).bind fun y => if y.isSh then (mapD t f δ r).map fun ys => y.dat :: ys else none) = some ys from e)
    obtain ⟨y, e2, e⟩ := Option.bind_eq_some_iff.mp e
    split at e
    · obtain ⟨zs, e3, e⟩ := Option.map_eq_some_iff.mp e
      subst e
      rw [List.length_cons, List.length_cons, mapD_length e3]
    · cases e
/-- the slots of the target are the block's own -/
def Own (t : Tg) (ix : List (Option Nat)) : Prop := ∀ j ∈ t.slots, ix.getD j (some 0) = none
theorem comp_run {K : PySem.W.Frag} {src : IF} {t : Tg} {ix : List (Option Nat)} {f : EF} (inj : Inj ix) (own : Own t ix) {σ : L2.St} {H : Hp} {Q : VK} (h : tD K (fComp src t ix f) σ H Q) : tComp (tI K src) (tGD K t) (tD K (fz f)) ix σ H Q := by
  obtain ⟨B, G0, G, δ, r, S, e, k⟩ := h
  obtain ⟨ds, eds, e⟩ := Option.bind_eq_some_iff.mp e
  by_cases hlen : ds.length ≤ sizeLine
  case neg => rw [if_neg hlen] at e; cases e
  rw [if_pos hlen] at e
  obtain ⟨ys, eys, e⟩ := Option.map_eq_some_iff.mp e
  subst e
  have lys := mapD_length eys
  refine ⟨B, G0, G, δ, ds, S, eds, fun J G1 H1 S1 g1 jd D hD => ?_⟩
  have k1 := KD.step ⟨S, k⟩ S1 g1
  -- turn i: the first i are done
  refine ⟨fun i m H2 => m = ds.length - i ∧ i ≤ ds.length ∧ ∃ G2 vs zs, Gr G1 H1 G2 H2 ∧ Same G2 H2 ∧ H2 D = some (.lst vs) ∧ G2 D = none ∧ Reps K G2 zs vs ∧ mapD t f (subS ix δ) (ds.drop i) = some (ys.drop i) ∧ zs = ys.take i, ⟨ds.length, by simp, Nat.zero_le _, G1, [], [], ⟨Same.refl G1, Same.upd_new hD, fun _ _ => rfl⟩, S1.gh.trans (Same.upd_new hD), upd_same, S1.g_free hD, Reps.nil, eys, by simp⟩, ?_⟩
  rintro i m H2 ⟨rfl, hi, G2, vs, zs, g2, gh2, e2, e3, rr, em, rfl⟩
  obtain ⟨jg, js⟩ := jd i H2 G2 g2.gg gh2
  have S2 : Sim K B G0 G2 δ σ H2 := S1.ext g2 gh2
  by_cases hlt : i < ds.length
  · have hd : ds[i]? = some ds[i] := List.getElem?_eq_getElem hlt
    obtain ⟨go, yl⟩ := jg _ hd
    rw [List.drop_eq_getElem_cons hlt] at em
    obtain ⟨δ3, e4, em⟩ := Option.bind_eq_some_iff.mp (show ((setT t ds[i] (subS ix δ)).bind fun δ1 => (fz f δ1).bind fun y => if y.isSh then (mapD t f (subS ix δ) (ds.drop (i + 1))).map fun ys => y.dat :: ys else none) = some (ys.drop i) from em)
    obtain ⟨y, e5, em⟩ := Option.bind_eq_some_iff.mp em
    by_cases hsh : y.isSh = true
    case neg => rw [if_neg hsh] at em; cases em
    rw [if_pos hsh] at em
    obtain ⟨ws, ews, em⟩ := Option.map_eq_some_iff.mp em
    have hyl : i < ys.length := by rw [lys]; exact hlt
    rw [List.drop_eq_getElem_cons hyl] at em
    have em1 : y.dat = ys[i] := by injection em
    have em2 : ws = ys.drop (i + 1) := by injection em
    refine .inr ⟨go, fun x H3 yx => ?_⟩
    obtain ⟨G3, g3, gh3, rx⟩ := yl x H3 yx
    have S3 := S2.ext g3 gh3
    refine ⟨B, G0, G3, subS ix δ, ds[i], δ3, S3.sub inj, rx, e4, fun σ4 S4 hk => ⟨fun j v hv => ?_, B, G0, G3, δ3, y, S4, e5, fun w G5 H5 S5 g5 q5 => ?_⟩⟩
    · rw [hk j fun hj => ?_]
      · exact hv
      · have := own j hj
        rw [sub_at] at hv
        obtain ⟨o, eo, hv⟩ := Option.map_eq_some_iff.mp hv
        rw [List.getD_eq_getElem?_getD, eo] at this
        have this' : o = none := this
        subst this'
        cases hv
    · have gg := g3.trans g5
      cases y with
      | ow _ => exact absurd (show false = true from hsh) Bool.false_ne_true
      | al _ _ => exact absurd (show false = true from hsh) Bool.false_ne_true
      | ft _ _ => exact absurd (show false = true from hsh) Bool.false_ne_true
      | sh dy =>
        have hq : Rep K G5 dy w := q5
        have eD : H5 D = some (.lst vs) := gg.hh _ _ e2
        have gD : G5 D = none := by rw [gg.nw D (by rw [e2]; simp)]; exact e3
        refine ⟨vs, eD, by rw [← rr.length, List.length_take]; omega, ds.length - (i + 1), by omega, rfl, hlt, G5, vs ++ [w], ys.take i ++ [dy], ⟨g2.gg.trans gg.gg, fun b u eb => ?_, fun b hb => ?_⟩, fun b u eb => ?_, upd_same, gD, (rr.mono gg.gg).append (Reps.cons hq Reps.nil), by rw [ews, em2], ?_⟩
        · rw [upd_ne (ne_of_none eb hD)]; exact gg.hh _ _ (g2.hh _ _ eb)
        · have hb2 : H2 b ≠ none := by
            cases q : H1 b with
            | none => exact absurd q hb
            | some o => rw [g2.hh b o q]; simp
          rw [gg.nw b hb2, g2.nw b hb]
        · rw [upd_ne (ne_of_none eb gD)]; exact S5.gh _ _ eb
        · have z : dy = ys[i] := em1
          rw [z, List.take_add_one, List.getElem?_eq_getElem hyl]; rfl
  · have hi' : i = ds.length := Nat.le_antisymm hi (Nat.not_lt.mp hlt)
    subst hi'
    refine .inl ⟨js (Nat.le_refl _), ?_⟩
    refine k1.out _ G2 H2 S2 g2 ⟨D, vs, rfl, e2, e3, hD, ?_⟩
    rw [← lys, List.take_length] at rr
    exact rr
theorem pd_comp {elt iter tg : Expr} {scope : Scope} {pos : Pos} {src : IF} {t : Tg} {f : EF} {N' : List Str} {ix : List (Option Nat)} (hc : X.calm = true) (ck : CompOk X.N X.env.scope scope N' ix) (inj : Inj ix) (own : Own t ix) (hi : PID X tg iter src)
    (hg : ∀ C s H fp, PGD (Xc X scope C s H fp N' XF) tg t) (he : ∀ C s H fp, PD (Xc X scope C s H fp N' XF) elt f) (hs : ∀ x, foldedSetIterable iter X.env x = pure x := by intro _; rfl) : PD X (.ListComp elt [⟨tg, iter, [], 0⟩] scope pos) (fComp src t ix f) :=
  PE.imp (pe_comp (g := tGD X.K t) (te := tD X.K (fz f)) hc ck hi hg (fun C s H fp => (he C s H fp).fz) hs) fun σ H Q h => comp_run inj own h
theorem psd_setComp {elt iter tg : Expr} {scope : Scope} {pos spos pos' : Pos} {src : IF} {t : Tg} {f : EF} {N' : List Str} {ix : List (Option Nat)} {i : Nat} {y : Str} (hc : X.calm = true) (ck : CompOk X.N X.env.scope scope N' ix) (inj : Inj ix) (own : Own t ix) (hi : PID X tg iter src)
    (hg : ∀ C s H fp, PGD (Xc X scope C s H fp N' XF) tg t) (he : ∀ C s H fp, PD (Xc X scope C s H fp N' XF) elt f) (hN : X.N.Nodup) (hiy : X.N[i]? = some y) (hy : Loc X.env.scope y)
    (hsw : swapsWith (.ListComp elt [⟨tg, iter, [], 0⟩] scope pos) (some (.Name y pos')) spos.line X.env = pure true := by rfl) (hs : ∀ x, foldedSetIterable iter X.env x = pure x := by intro _; rfl) (hf : X.fn y = true ∨ X.env.scope.names.lookup y = some .local := by first | exact .inl rfl | exact .inr rfl | assumption) :
    PSD X (.Assign [.Name y pos'] (.ListComp elt [⟨tg, iter, [], 0⟩] scope pos) spos) (gSet i (fComp src t ix f)) := by
  refine PS.imp (ps_setComp (g := tGD X.K t) (te := tD X.K (fz f)) hc ck hi hg (fun C s H fp => (he C s H fp).fz) hN hiy hy hsw hs hf) fun D σ H h => ?_
  obtain ⟨B, G0, G, δ, fl, S, e, k⟩ := set_run h
  exact comp_run inj own ⟨B, G0, G, δ, fl, S, e, k⟩

/-! ### a def -/
def bodyD (np nN : Nat) (g : SF) : FD := fun ds => if ds.length = np then (match g (ds.map Sl.sh ++ List.replicate (nN - np) Sl.un) with
  | some (.rt r) => some r
  | some (.nx _) => some (.sh .non)
  | _ => none) else none
theorem sim_start {K : PySem.W.Frag} {G H : Hp} {ds : List Dm} {vs : List V} {N : List Str} (g : Same G H) (r : Reps K G ds vs) : Sim K H G G (ds.map Sl.sh ++ List.replicate (N.length - ds.length) Sl.un) (L2.start N vs) H := by
  have hl := r.length
  refine ⟨?_, Same.refl H, Same.refl G, g, fun _ _ => rfl, fun i s h => ?_, fun i j es fs p _ h => ?_⟩
  · unfold L2.start
    simp [hl]
  · by_cases hi : i < ds.length
    · rw [List.getElem?_append_left (by simpa using hi), List.getElem?_map, List.getElem?_eq_getElem hi] at h
      cases h
      obtain ⟨v, ev, rv⟩ := r.get (List.getElem?_eq_getElem hi)
      refine ⟨v, ?_, rv⟩
      unfold L2.start
      rw [List.getElem?_append_left (by simp; omega), List.getElem?_map, ev]; rfl
    · rw [List.getElem?_append_right (by simpa using hi)] at h
      rw [List.getElem?_replicate] at h
      split at h
      · cases h; trivial
      · cases h
  · exfalso
    by_cases hi : i < ds.length
    · rw [List.getElem?_append_left (by simpa using hi), List.getElem?_map, List.getElem?_eq_getElem hi] at h
      cases h
    · rw [List.getElem?_append_right (by simpa using hi), List.getElem?_replicate] at h
      split at h
      · cases h
      · cases h
theorem fnD {P : Program} {w : World} {K : PySem.W.Frag} {mg : Str → Option Value} {base : Heap} {x qual : Str} {st : Stmt} {f : Addr} {fd : FuncData} {N ps : List Str} {k : Nat} {g : SF} (F : Fun K x qual st f fd) (S : FnScope N ps (defScope st))
    (hb : ∀ (cdv : Value) (A : Around) (outer : List Env) (s : Shared) (H : Hp) (E : XK), Room k (A.deeper (PyProof.Rows.envOfC qual (defScope st) s.heap.objs.size f cdv)) → PSsD (cxOf CX0 P w K mg base N qual (defScope st) f cdv A outer s H E).nox (defBody st) g) :
    FnOk P w K mg base CX0 (k + 1) f fd ps (spD K (bodyD ps.length N.length g)) := by
  refine F.ok S (fun vs H Q E h => ?_) (fun cdv A outer s H vs Q E hr h => ⟨_, hb cdv A outer s H E hr, ?_⟩)
  · obtain ⟨G, ds, r, _, rr, e, _⟩ := h
    unfold bodyD at e
    split at e
    · rename_i hl; rw [← rr.length, hl]
    · cases e
  · obtain ⟨G, ds, r, sm, rr, e, k⟩ := h
    unfold bodyD at e
    split at e
    case isFalse => cases e
    rename_i hl
    have S0 := sim_start (N := N) sm rr
    rw [hl] at S0
    cases q : g (ds.map Sl.sh ++ List.replicate (N.length - ps.length) Sl.un) with
    | none => rw [q] at e; cases e
    | some fl =>
      rw [q] at e
      refine ⟨H, G, G, _, fl, S0, q, ?_⟩
      cases fl with
      | rt r' =>
        cases e
        exact fun δ' G' σ' H' v S' g' ret => k v G' H' S'.bh g' S'.gh S'.gb ret
      | nx δ' =>
        cases e
        exact fun G' σ' H' S' g' => k .non G' H' S'.bh g' S'.gh S'.gb (show Rep K G' .non .non from rep_scal (d := .non) rfl)
      | bk δ' => cases e
      | ct δ' => cases e
end
end BF
set_option Elab.async false
set_option linter.all false
set_option maxRecDepth 100000
set_option maxHeartbeats 4000000
namespace BF
open PySem PySem.Spec L2

def compOkB (N : List Str) (sc scope : Scope) (N' : List Str) (ix : List (Option Nat)) : Bool :=
  scope.names.all (fun y => decide (y.2 ≠ .cell) && (decide (y.2 ≠ .local) || decide (scope.names.lookup y.1 = some .local)) && (decide (y.2 ≠ .free) || decide (sc.names.lookup y.1 = some .cell) || decide (sc.names.lookup y.1 = some .free)))
    && decide (scope.kind = .function) && decide (N'.length = ix.length) && (N'.zip ix).all (fun p => match p.2 with | none => true | some i => decide (N[i]? = some p.1) && decide (scope.names.lookup p.1 ≠ some .local)) && decide N'.Nodup
theorem compOk_mk {N : List Str} {sc scope : Scope} {N' : List Str} {ix : List (Option Nat)} (h : compOkB N sc scope N' ix = true) : CompOk N sc scope N' ix := by
  unfold compOkB at h
  simp only [Bool.and_eq_true, List.all_eq_true, decide_eq_true_eq, Bool.or_eq_true] at h
  obtain ⟨⟨⟨⟨h1, h2⟩, h3⟩, h4⟩, h5⟩ := h
  refine ⟨fun y hy => (h1 y hy).1.1, h2, fun y hy e => ?_, fun y hy e => ?_, h3, fun p hp i e => ?_, h5⟩
  · rcases (h1 y hy).1.2 with z | z
    · exact absurd e z
    · exact z
  · rcases (h1 y hy).2 with (z | z) | z
    · exact absurd e z
    · exact .inl z
    · exact .inr z
  · have := h4 p hp
    rw [e] at this
    simp only [Bool.and_eq_true, decide_eq_true_eq] at this
    exact this
theorem nd_of {N : List Str} (h : decide N.Nodup = true) : N.Nodup := of_decide_eq_true h
theorem inj_of {ix : List (Option Nat)} (h : decide (Inj ix) = true) : Inj ix := of_decide_eq_true h
theorem own_of {t : Tg} {ix : List (Option Nat)} (h : (t.slots.all fun j => decide (ix.getD j (some 0) = none)) = true) : Own t ix := fun j hj => of_decide_eq_true (List.all_eq_true.mp h j hj)

/-- a def of the text as it stands behind the top -/
structure Def1 (K : PySem.W.Frag) (mg : Str → Option Value) (x : Str) (st : Stmt) (f : Addr) (fd : FuncData) (ps : List Str) : Prop where
  fn : Fun K x x st f fd
  mg : mg x = some (.ref f)
  bi : Binds K fd ps []
theorem Def1.mk' {K : PySem.W.Frag} {h : Heap} {mg : Str → Option Value} {x : Str} {st : Stmt} {f : Addr} {ps : List Str} {oc : Value} {od an : Option Addr} {osl : Array (Option Value)} {kV doc pm cdv ct : Value} (X : K.In h) (G : h.Ns mainGlobals mg)
    (a : PySem.W.nsIn K mainGlobals x = some (some (.ref f))) (l : K.lookup f = some ⟨oc, od, .func (PySem.W.fnOf x x (defArgs st) (defBody st) (defScope st) .none kV doc pm an cdv ct), osl⟩) (c : PySem.W.codeIn K cdv x = true) (k : PySem.W.keepIn K (.ref f) = true)
    (b : ∀ (kV doc pm : Value) (an : Option Addr) (cdv ct : Value) (us : List Value), us.length = ps.length → bindArgs (PySem.W.fnOf x x (defArgs st) (defBody st) (defScope st) .none kV doc pm an cdv ct) ⟨us, []⟩ = pure (ps.zip us)) :
    Def1 K mg x st f (PySem.W.fnOf x x (defArgs st) (defBody st) (defScope st) .none kV doc pm an cdv ct) ps :=
  ⟨fun_mk l c k, PySem.W.mg_of X G a, (fun_mk (K := K) l c k).binds b⟩

end BF

namespace BFA
open PySem PySem.W PySem.Calls PyProof.Rows
theorem bits_of_lay {ns : List Int} (h : WData.layableAll [WData.list (ns.map WData.int)] = true) : ∀ n ∈ ns, Builtin.Int.intBits n ≤ 1048576 := fun n hn => by
  have h1 := layableW_arg h _ (List.mem_singleton_self _)
  have h2 := layableW_item h1 (WData.int n) (List.mem_map_of_mem hn)
  have h3 := (layableW_iff.mp h2).2.2
  exact h3
theorem attachB {l : OpenLaw} {n : Nat} {q : Program} {loose : List Str} {XP : (Str → Option Value) → Heap → Prop} {YP : World → Heap → Prop} {d : DefRec}
    (hn : l.most = some n) (hdf : d.params.defaults = [])
    (call : ∀ (w : World) (s₀ s₁ : Shared) (mg mb : Str → Option Value) (fa : Addr) (a : Addr) (vs : List Value) (ns : List Int),
      Ground q loose [] XP w s₀ mg mb s₁.heap → YP w s₁.heap → mg d.name = some (.ref fa) →
      s₁.heap.get? a = some { cls := .type "list", data := .seq vs.toArray } → IntsAre vs ns → ns.length ≤ n → (∀ n ∈ ns, Builtin.Int.intBits n ≤ 1048576) → s₁.gens = #[] →
      codeAny (model l.prog w) callerA (.call (.ref fa) ⟨[.ref a], []⟩) (fun r s' => r = .ok (.ret (.bool true)) ∧ OldK s₁.heap s'.heap ∧ s'.os = s₁.os ∧ AllBare s'.gens) s₁) :
    WalkO q loose XP YP l.row.toRowW d [] (fun f vs => PySem.call f vs) := by
  intro w s₀ s₁ mg mb G Y fa o pm cd doc dV kV ho hd hcd hD hmg hg args vals as hpre hlay hrd hwl hlo
  obtain rfl : dV = .none := Dflts.none hD hdf
  obtain rfl : kV = .none := Dflts.noKw hD
  obtain ⟨a, vs, ns, rfl, rfl, hobj, hints, hlen⟩ := Att.script_of hn hpre hwl
  refine enter_call (codeAny_mono (call w s₀ s₁ mg mb fa a vs ns G Y hmg hobj hints hlen (bits_of_lay hlay) hg) fun r s' hq => ?_)
  obtain ⟨rfl, h2, h3, h4⟩ := hq
  exact ⟨.inl ⟨.bool true, .bool true, [], rfl, fun _ => rfl, .bool true, Att.post_true l _, fun _ => ⟨List.Pairwise.nil, fun _ hm => (nomatch hm)⟩⟩, h2, h3, h4⟩
open BF L2
theorem reps_script {K : PySem.W.Frag} {G : Hp} : ∀ (ns : List Int), Reps K G (ns.map Dm.int) (ns.map V.int)
  | [] => Reps.nil
  | n :: ns => Reps.cons (by unfold Rep; rfl) (reps_script ns)
/-- the law's walk, from the promise of its def over data -/
theorem walkD {l : OpenLaw} {k : Nat} {q : Program} {loose : List Str} {XP : (Str → Option Value) → Heap → Prop} {YP : World → Heap → Prop} {d : DefRec} {K : Params → PySem.W.Frag} {x : Str} {FL : FD}
    (hn : l.most = some 63) (hdf : d.params.defaults = []) (hr : Room k callerA) (hY : ∀ (w : World) (h : Heap), YP w h → (K w.params).In h)
    (F : ∀ (w : World) (mg : Str → Option Value) (fa : Addr) (h : Heap), (K w.params).In h → h.Ns mainGlobals mg → mg d.name = some (.ref fa) →
      ∃ fd : FuncData, (∀ (s : Shared) (u : Value), BindsTo s fd ⟨[u], []⟩ [(x, u)]) ∧ ∀ base : Heap, (K w.params).In base → base.Ns mainGlobals mg → FnOk l.prog w (K w.params) mg base CX0 k fa fd [x] (spD (K w.params) FL))
    (law : ∀ ns : List Int, ns.length ≤ 63 → (∀ n ∈ ns, Builtin.Int.intBits n ≤ 1048576) → FL [.lst (ns.map .int)] = some (.sh (.bl true))) :
    WalkO q loose XP YP l.row.toRowW d [] (fun f vs => PySem.call f vs) := by
  refine attachB hn hdf fun w s₀ s₁ mg mb fa a vs ns G Y hmg hobj hints hlen hbits hg => ?_
  have KX := hY w _ Y
  obtain ⟨fd, hb, hF⟩ := F w mg fa _ KX G.T.g hmg
  refine law_call KX G.T.g G.T.b G.T.builtins G.T.nolimit hg hobj hints (Nat.le_trans hlen (by rw [sizeLine_eq]; decide)) hr hF hb (fun H hO hS => ?_) fun H e s' z => z
  refine ⟨H, _, _, Same.refl H, Reps.cons ?_ Reps.nil, law ns hlen hbits, fun v G' H' _ _ _ _ ret => ?_⟩
  · unfold Rep
    exact ⟨a, _, rfl, hS, reps_script ns⟩
  · have ret' : Rep (K w.params) G' (.bl true) v := ret
    unfold Rep at ret'
    exact ret'
end BFA

namespace BF
open PySem PySem.Spec L2
theorem bo_len : bootBuiltins "len" = some (.builtin "len") := by decide +kernel
theorem bo_min : bootBuiltins "min" = some (.builtin "min") := by decide +kernel
theorem bo_max : bootBuiltins "max" = some (.builtin "max") := by decide +kernel
theorem bo_sum : bootBuiltins "sum" = some (.builtin "sum") := by decide +kernel
theorem bo_abs : bootBuiltins "abs" = some (.builtin "abs") := by decide +kernel
theorem bo_isinstance : bootBuiltins "isinstance" = some (.builtin "isinstance") := by decide +kernel
theorem bo_list : bootBuiltins "list" = some (.type "list") := by decide +kernel
theorem bo_tuple : bootBuiltins "tuple" = some (.type "tuple") := by decide +kernel
theorem bo_int : bootBuiltins "int" = some (.type "int") := by decide +kernel
theorem bo_bool : bootBuiltins "bool" = some (.type "bool") := by decide +kernel
theorem bo_str : bootBuiltins "str" = some (.type "str") := by decide +kernel
theorem bo_enumerate : bootBuiltins "enumerate" = some (.type "enumerate") := by decide +kernel
theorem psd_setCompF {X : Cx} {elt iter tg : Expr} {scope : Scope} {pos spos pos' : Pos} {src : IF} {t : Tg} {f : EF} {N' : List Str} {ix : List (Option Nat)} {i : Nat} {y : Str} (hc : X.calm = true) (ck : CompOk X.N X.env.scope scope N' ix) (inj : Inj ix) (own : Own t ix) (hi : PID X tg iter src)
    (hg : ∀ C s H fp, PGD (Xc X scope C s H fp N' XF) tg t) (he : ∀ C s H fp, PD (Xc X scope C s H fp N' XF) elt f) (hN : X.N.Nodup) (hiy : X.N[i]? = some y) (hy : Loc X.env.scope y)
    (hsw : swapsWith (.ListComp elt [⟨tg, iter, [], 0⟩] scope pos) (some (.Name y pos')) spos.line X.env = pure true := by rfl) (hs : ∀ x, foldedSetIterable iter X.env x = pure x := by intro _; rfl) (hf : X.fn y = true ∨ X.env.scope.names.lookup y = some .local := by first | exact .inl rfl | exact .inr rfl | assumption) :
    PSD X (.Assign [.Name y pos'] (.ListComp elt [⟨tg, iter, [], 0⟩] scope pos) spos) (gSet i (fz (fComp src t ix f))) := by
  refine PS.imp (ps_setComp (g := tGD X.K t) (te := tD X.K (fz f)) hc ck hi hg (fun C s H fp => (he C s H fp).fz) hN hiy hy hsw hs hf) fun D σ H h => ?_
  exact comp_run inj own (tD_fz (set_run h))
end BF
set_option Elab.async false
set_option linter.all false
set_option maxRecDepth 100000
set_option maxHeartbeats 4000000
namespace BF
open PySem L2

/-! ### conditions of the operations -/
@[simp] theorem mulOk_left {a b : Int} (h1 : -(2 ^ 64) < a) (h2 : a < 2 ^ 64) : mulOk a b = true := by
  exact okB_of (IntMulOk.of_left (intBits_le_64 h1 h2))
@[simp] theorem mulOk_right {a b : Int} (h1 : -(2 ^ 64) < b) (h2 : b < 2 ^ 64) : mulOk a b = true := by
  exact okB_of (IntMulOk.of_right (intBits_le_64 h1 h2))
theorem mulOk_bits {a b : Int} {m n : Nat} (ha : Builtin.Int.intBits a ≤ m) (hb : Builtin.Int.intBits b ≤ n) (h : m + n ≤ 134217728) : mulOk a b = true := okB_of (IntMulOk.of_le ha hb h)
@[simp] theorem powOk_one {j : Int} (h1 : 0 ≤ j) (h2 : j ≤ 1000000) : powOk 1 j = true := okB_of ⟨h1, h2, by decide⟩
@[simp] theorem powOk_of {i j : Int} (h1 : 0 ≤ j) (h2 : j ≤ 1000000) (h3 : i.natAbs < 2 ^ 64) : powOk i j = true := okB_of ⟨h1, h2, h3⟩
theorem divOk_of {j : Int} (h1 : 0 < j) (h2 : j.natAbs.log2 < 9000) : divOk j = true := okB_of ⟨h1, h2⟩
@[simp] theorem divOk_small {j : Int} (h1 : 0 < j) (h2 : j < 2 ^ 64) : divOk j = true := by
  refine divOk_of h1 ?_
  have hn : j.natAbs < 2 ^ 64 := by omega
  have : j.natAbs.log2 < 64 := (Nat.log2_lt (by omega)).mpr hn
  omega
@[simp] theorem posOk_of {j : Int} (h1 : 0 < j) : posOk j = true := okB_of h1
@[simp] theorem nnOk_of {j : Int} (h1 : 0 ≤ j) : nnOk j = true := okB_of h1
theorem log2_pow (n : Nat) : ((2 : Int) ^ n).natAbs.log2 = n := by
  have e : ((2 : Int) ^ n).natAbs = 2 ^ n := by rw [Int.natAbs_pow]; rfl
  rw [e, Nat.log2_two_pow]
theorem divOk_pow {n : Nat} (h : n < 9000) : divOk (2 ^ n) = true := divOk_of (Int.pow_pos (by decide)) (by rw [log2_pow]; exact h)
theorem pow2_pos (n : Nat) : (0 : Int) < 2 ^ n := Int.pow_pos (by decide)
@[simp] theorem oI_int {C : Int → Int → Bool} {g : Int → Int → Dm} {i j : Int} : oI C g (.int i) (.int j) = if C i j = true then some (g i j) else none := rfl
@[simp] theorem int?_int {i : Int} : (Dm.int i).int? = some i := rfl
@[simp] theorem bl?_bl {b : Bool} : (Dm.bl b).bl? = some b := rfl
@[simp] theorem lst?_lst {ds : List Dm} : (Dm.lst ds).lst? = some ds := rfl
@[simp] theorem dat_sh {d : Dm} : (Rs.sh d).dat = d := rfl
@[simp] theorem dat_ow {d : List Dm} : (Rs.ow d).dat = .lst d := rfl
@[simp] theorem dat_al {i : Nat} {d : List Dm} : (Rs.al i d).dat = .lst d := rfl
@[simp] theorem fz_sh {d : Dm} : (Rs.sh d).fz = .sh d := rfl
@[simp] theorem fz_ow {d : List Dm} : (Rs.ow d).fz = .sh (.lst d) := rfl
@[simp] theorem fz_al {i : Nat} {d : List Dm} : (Rs.al i d).fz = .al i d := rfl
@[simp] theorem out_sh {d : Dm} : (Rs.sh d).out = .sh d := rfl
@[simp] theorem out_ow {d : List Dm} : (Rs.ow d).out = .ow d := rfl
@[simp] theorem out_al {i : Nat} {d : List Dm} : (Rs.al i d).out = .ow d := rfl
@[simp] theorem sl_sh {d : Dm} : (Rs.sh d).sl = some (.sh d) := rfl
@[simp] theorem sl_ow {d : List Dm} : (Rs.ow d).sl = some (.ow d) := rfl
@[simp] theorem isSh_sh {d : Dm} : (Rs.sh d).isSh = true := rfl
@[simp] theorem isSh_al {i : Nat} {d : List Dm} : (Rs.al i d).isSh = false := rfl
@[simp] theorem scal_sh {d : Dm} : (Rs.sh d).scal = d.scal := rfl
@[simp] theorem dscal_int {i : Int} : (Dm.int i).scal = true := rfl
@[simp] theorem dscal_bl {b : Bool} : (Dm.bl b).scal = true := rfl

/-! ### statements, step by step -/
theorem seq_nx {g1 g2 : SF} {δ δ' : List Sl} {fl : Fl} (h1 : g1 δ = some (.nx δ')) (h2 : g2 δ' = some fl) : gSeq g1 g2 δ = some fl := by unfold gSeq; rw [h1]; exact h2
theorem seq_rt {g1 g2 : SF} {δ : List Sl} {r : Rs} (h1 : g1 δ = some (.rt r)) : gSeq g1 g2 δ = some (.rt r) := by unfold gSeq; rw [h1]; rfl
theorem if_t {c : BF'} {g1 g2 : SF} {δ : List Sl} {fl : Fl} (h : c δ = some true) (h1 : g1 δ = some fl) : gIf c g1 g2 δ = some fl := by unfold gIf; rw [h]; exact h1
theorem if_f {c : BF'} {g1 g2 : SF} {δ : List Sl} {fl : Fl} (h : c δ = some false) (h1 : g2 δ = some fl) : gIf c g1 g2 δ = some fl := by unfold gIf; rw [h]; exact h1
theorem nil_nx {δ : List Sl} : BF.gNil δ = some (.nx δ) := rfl
theorem set_sh {i : Nat} {f : EF} {δ : List Sl} {d : Dm} (h : f δ = some (.sh d)) : gSet i f δ = some (.nx (δ.set i (.sh d))) := by unfold gSet; rw [h]; rfl
theorem set_ow {i : Nat} {f : EF} {δ : List Sl} {d : List Dm} (h : f δ = some (.ow d)) : gSet i f δ = some (.nx (δ.set i (.ow d))) := by unfold gSet; rw [h]; rfl
theorem set_fz {i : Nat} {f : EF} {δ : List Sl} {r : Rs} (h : f δ = some r) (hs : r.fz = .sh r.dat) : gSet i (fz f) δ = some (.nx (δ.set i (.sh r.dat))) := by unfold gSet fz; rw [h]; show (some r.fz).bind _ = _; rw [hs]; rfl
theorem ret_of {f : EF} {δ : List Sl} {r : Rs} (h : f δ = some r) : gRet f δ = some (.rt r.out) := by unfold gRet; rw [h]; rfl
theorem body_rt {np nN : Nat} {g : SF} {ds : List Dm} {δ : List Sl} {r : Rs} (hl : ds.length = np) (hδ : ds.map Sl.sh ++ List.replicate (nN - np) Sl.un = δ) (h : g δ = some (.rt r)) : bodyD np nN g ds = some r := by
  unfold bodyD
  rw [if_pos hl, hδ, h]
theorem for_of {src : IF} {t : Tg} {b : SF} {δ : List Sl} {ds : List Dm} {fl : Fl} (h : src δ = some ds) (h2 : loopD t b ds δ = some fl) : gFor src t b δ = some fl := by unfold gFor; rw [h]; exact h2
theorem call_of {F : FD} {fs : List EF} {δ : List Sl} {rs : List Rs} {r : Rs} (h1 : evs fs δ = some rs) (h2 : F (rs.map Rs.dat) = some r) (h3 : (rs.all Rs.isSh || r.scal) = true) : fCall F fs δ = some r := by unfold fCall; rw [h1]; show ((F (rs.map Rs.dat)).bind _) = _; rw [h2]; show (if _ then _ else _) = _; rw [if_pos h3]
theorem app_of {i : Nat} {f : EF} {δ : List Sl} {ds : List Dm} {r : Rs} (h1 : δ[i]? = some (.ow ds)) (h2 : f δ = some r) (h3 : r.fz.isSh = true) (h4 : ds.length < sizeLine) : gApp i f δ = some (.nx (δ.set i (.ow (ds ++ [r.dat])))) := by
  unfold gApp own?
  rw [h1]
  show (fz f δ).bind _ = _
  rw [fz_some h2]
  show (if _ then _ else _) = _
  rw [if_pos (by rw [h3, decide_eq_true h4]; rfl), Rs.fz_dat]
theorem loop_nil {t : Tg} {b : SF} {δ : List Sl} : loopD t b [] δ = some (.nx δ) := rfl
theorem loop_cons {t : Tg} {b : SF} {d : Dm} {r : List Dm} {δ δ1 δ2 : List Sl} {fl : Fl} (h1 : setT t d δ = some δ1) (h2 : b δ1 = some (.nx δ2)) (h3 : loopD t b r δ2 = some fl) : loopD t b (d :: r) δ = some fl := by
  unfold loopD; rw [h1]; show (b δ1).bind _ = _; rw [h2]; exact h3
theorem comp_of {src : IF} {t : Tg} {ix : List (Option Nat)} {f : EF} {δ : List Sl} {ds ys : List Dm} (h1 : src δ = some ds) (h2 : ds.length ≤ sizeLine) (h3 : mapD t f (subS ix δ) ds = some ys) : fComp src t ix f δ = some (.ow ys) := by
  unfold fComp; rw [h1]; show (if _ then _ else _) = _; rw [if_pos h2, h3]; rfl
theorem mapD_of {t : Tg} {f : EF} {δ : List Sl} (g : Dm → Dm) : ∀ {ds : List Dm}, (∀ d ∈ ds, ∃ δ1, setT t d δ = some δ1 ∧ ∃ r, f δ1 = some r ∧ r.fz = .sh (g d)) → mapD t f δ ds = some (ds.map g)
  | [], _ => rfl
  | d :: ds, h => by
    obtain ⟨δ1, e1, r, e2, e3⟩ := h d List.mem_cons_self
    unfold mapD
    rw [e1]
    show (fz f δ1).bind _ = _
    rw [fz_some e2, e3]
    show (if (Rs.sh (g d)).isSh = true then Option.map (fun ys => g d :: ys) (mapD t f δ ds) else none) = _
    rw [isSh_sh, if_pos rfl, mapD_of g fun x hx => h x (List.mem_cons_of_mem _ hx)]
    rfl
theorem natCast_mask (w : Nat) : ((2 ^ w - 1 : Nat) : Int) = 2 ^ w - 1 := by
  have h : 1 ≤ 2 ^ w := Nat.one_le_two_pow
  rw [Int.ofNat_sub h]
  push_cast
  rfl
theorem cut_to (xs : List Dm) (k : Nat) : cutD xs none (some (k : Int)) = xs.take k := by
  unfold cutD
  rw [HT.sIx_none, HT.sIx_nat, List.drop_zero, Nat.sub_zero]
  rcases Nat.le_total k xs.length with h | h
  · rw [Nat.min_eq_left h]
  · rw [Nat.min_eq_right h, List.take_of_length_le (Nat.le_refl _), List.take_of_length_le h]
theorem cut_from (xs : List Dm) (k : Nat) : cutD xs (some (k : Int)) none = xs.drop k := by
  unfold cutD
  rw [HT.sIx_none, HT.sIx_nat]
  rcases Nat.le_total k xs.length with h | h
  · rw [Nat.min_eq_left h, List.take_of_length_le (by rw [List.length_drop]; exact Nat.le_refl _)]
  · rw [Nat.min_eq_right h, Nat.sub_self, List.take_zero, List.drop_eq_nil_of_le h]
theorem cut_mid (xs : List Dm) (a b : Nat) (hab : a ≤ b) : cutD xs (some (a : Int)) (some (b : Int)) = (xs.drop a).take (b - a) := by
  unfold cutD
  rw [HT.sIx_nat, HT.sIx_nat]
  rcases Nat.le_total b xs.length with h | h
  · rw [Nat.min_eq_left h, Nat.min_eq_left (by omega)]
  · rcases Nat.le_total a xs.length with h2 | h2
    · rw [Nat.min_eq_right h, Nat.min_eq_left h2, List.take_of_length_le (by rw [List.length_drop]; exact Nat.le_refl _), List.take_of_length_le (by rw [List.length_drop]; omega)]
    · rw [Nat.min_eq_right h, Nat.min_eq_right h2, Nat.sub_self, List.take_zero, List.drop_eq_nil_of_le h2, List.take_nil]
def enumFrom : Nat → List Dm → List Dm
  | _, [] => []
  | j, d :: r => .tup [.int (j : Int), d] :: enumFrom (j + 1) r
theorem enumFrom_get : ∀ (xs : List Dm) (j i : Nat), (enumFrom j xs)[i]? = xs[i]?.map fun d => .tup [.int ((j + i : Nat) : Int), d]
  | [], j, i => by simp [enumFrom]
  | d :: r, j, 0 => by simp [enumFrom]
  | d :: r, j, i + 1 => by
    show (enumFrom (j + 1) r)[i]? = _
    rw [enumFrom_get r (j + 1) i, List.getElem?_cons_succ, show j + 1 + i = j + (i + 1) by omega]
theorem enumD_from (xs : List Dm) : enumD xs = enumFrom 0 xs := by
  refine List.ext_getElem? fun i => ?_
  rw [enumFrom_get]
  unfold enumD
  rw [List.getElem?_map]
  by_cases h : i < xs.length
  · rw [List.getElem?_eq_getElem (by simpa using h), List.getElem?_eq_getElem h]
    simp [h]
  · rw [List.getElem?_eq_none (by simpa using h), List.getElem?_eq_none (by omega)]
    rfl
/-! ### bits -/
theorem band_nat (a b : Nat) : Builtin.bitAnd (a : Int) (b : Int) = ((a &&& b : Nat) : Int) := by
  unfold Builtin.bitAnd
  rw [decide_eq_true (Int.natCast_nonneg a), decide_eq_true (Int.natCast_nonneg b)]
  simp
theorem xor_add_and : ∀ x y : Nat, (x ^^^ y) + 2 * (x &&& y) = x + y := by
  intro x
  induction x using Nat.strongRecOn with
  | _ x ih =>
    intro y
    by_cases hx : x = 0
    · subst hx; simp
    · have h1 := ih (x / 2) (by omega) (y / 2)
      have e1 : (x ^^^ y) / 2 = x / 2 ^^^ y / 2 := Nat.xor_div_two
      have e2 : (x &&& y) / 2 = x / 2 &&& y / 2 := Nat.and_div_two
      have e3 : (x ^^^ y) % 2 = (x + y) % 2 := by
        have q := Nat.xor_mod_two_eq_one (a := x) (b := y)
        omega
      have e4 : (x &&& y) % 2 = x % 2 * (y % 2) := by
        have q := Nat.and_mod_two_eq_one (a := x) (b := y)
        rcases Nat.mod_two_eq_zero_or_one x with a | a <;> rcases Nat.mod_two_eq_zero_or_one y with b | b <;> rw [a, b] at q ⊢ <;> omega
      have d1 := Nat.div_add_mod (x ^^^ y) 2
      have d2 := Nat.div_add_mod (x &&& y) 2
      have d3 := Nat.div_add_mod x 2
      have d4 := Nat.div_add_mod y 2
      rw [e1, e3] at d1
      rw [e2, e4] at d2
      rcases Nat.mod_two_eq_zero_or_one x with a | a <;> rcases Nat.mod_two_eq_zero_or_one y with b | b <;> rw [a, b] at d2 <;> omega
theorem bxor_nat (a b : Nat) : Builtin.bitXor (a : Int) (b : Int) = ((a ^^^ b : Nat) : Int) := by
  have h := xor_add_and a b
  rw [PyProof.Rows.bitXor_and, band_nat]
  omega
theorem band_mask (x : Int) (w : Nat) : Builtin.bitAnd x (2 ^ w - 1) = x % 2 ^ w := PySem.W.kbt_mask x w
theorem mapD_map {α : Type} {t : Tg} {f : EF} {δ : List Sl} (e h : α → Dm) : ∀ {l : List α}, (∀ a ∈ l, ∃ δ1, setT t (e a) δ = some δ1 ∧ ∃ r, f δ1 = some r ∧ r.fz = .sh (h a)) → mapD t f δ (l.map e) = some (l.map h)
  | [], _ => rfl
  | a :: l, H => by
    obtain ⟨δ1, e1, r, e2, e3⟩ := H a List.mem_cons_self
    rw [List.map_cons]
    unfold mapD
    rw [e1]
    show (fz f δ1).bind _ = _
    rw [fz_some e2, e3]
    show (if (Rs.sh (h a)).isSh = true then Option.map (fun ys => h a :: ys) (mapD t f δ (l.map e)) else none) = _
    rw [isSh_sh, if_pos rfl, mapD_map e h fun x hx => H x (List.mem_cons_of_mem _ hx)]
    rfl
theorem mapD_rng {i : Nat} {f : EF} {δ : List Sl} {n : Nat} (h : Nat → Dm) (H : ∀ k, k < n → ∃ r, f (δ.set i (.sh (.int (k : Int)))) = some r ∧ r.fz = .sh (h k)) : mapD (.nm i) f δ (rng 0 n) = some ((List.range n).map h) := by
  unfold rng
  refine mapD_map _ h fun k hk => ⟨_, rfl, ?_⟩
  rw [Int.zero_add]
  exact H k (List.mem_range.mp hk)
theorem dt_of {f : EF} {δ : List Sl} {r : Rs} {d : Dm} (h : f δ = some r) (e : r.dat = d := by rfl) : dt f δ = some d := by unfold dt; rw [h, ← e]; rfl
theorem op2_of {o : Dm → Dm → Option Dm} {fa fb : EF} {δ : List Sl} {a b d : Dm} (h1 : dt fa δ = some a) (h2 : dt fb δ = some b) (h3 : o a b = some d) : op2 o fa fb δ = some (.sh d) := by unfold op2; rw [h1, Option.bind_some, h2, Option.bind_some, h3]; rfl
theorem fB_of {o : List Dm → Option Dm} {fs : List EF} {δ : List Sl} {rs : List Rs} {d : Dm} (h1 : evs fs δ = some rs) (h2 : o (rs.map Rs.dat) = some d) : fB o fs δ = some (.sh d) := by unfold fB; rw [h1, Option.bind_some, h2]; rfl
theorem evs_nil {δ : List Sl} : evs [] δ = some [] := rfl
theorem evs_cons {f : EF} {fs : List EF} {δ : List Sl} {r : Rs} {rs : List Rs} (h1 : f δ = some r) (h2 : evs fs δ = some rs) : evs (f :: fs) δ = some (r.fz :: rs) := by show (f δ).bind _ = _; rw [h1, Option.bind_some, h2]; rfl
theorem ix_of {fa fb : EF} {δ : List Sl} {a d : Dm} {i : Int} (h1 : dt fa δ = some a) (h2 : dt fb δ = some (.int i)) (h3 : ixD a i = some d) : fIx fa fb δ = some (.sh d) := by unfold fIx; rw [h1, Option.bind_some, h2, Option.bind_some, int?_int, Option.bind_some, h3]; rfl
theorem bB_of {f : EF} {δ : List Sl} {b : Bool} (h : dt f δ = some (.bl b)) : bB f δ = some b := by unfold bB; rw [h]; rfl
theorem iR_of {f : EF} {δ : List Sl} {n : Nat} (h : dt f δ = some (.int (n : Int))) (hn : okR (n : Int) = true) : iR f δ = some (rng 0 n) := by
  unfold iR
  rw [h, Option.bind_some, int?_int, Option.bind_some, if_pos hn, Int.toNat_natCast]
theorem okR_nat {n : Nat} (h : n ≤ 1000000) : okR (n : Int) = true := okB_of ⟨by omega, by omega⟩
theorem cat_of {fa fb : EF} {δ : List Sl} {xs ys : List Dm} (h1 : dt fa δ = some (.lst xs)) (h2 : dt fb δ = some (.lst ys)) (h3 : xs.length + ys.length ≤ sizeLine) : fCat fa fb δ = some (.ow (xs ++ ys)) := by
  unfold fCat; rw [h1, Option.bind_some, h2, Option.bind_some, lst?_lst, Option.bind_some, lst?_lst, Option.bind_some, if_pos h3]
theorem sl_of {fa : EF} {lo hi : OF} {δ : List Sl} {xs : List Dm} {l u : Option Int} (h1 : dt fa δ = some (.lst xs)) (h2 : lo δ = some l) (h3 : hi δ = some u) : fSl fa lo hi δ = some (.ow (cutD xs l u)) := by
  unfold fSl; rw [h1, Option.bind_some, h2, Option.bind_some, h3, Option.bind_some]; rfl
theorem part_of {f : EF} {δ : List Sl} {i : Int} (h : dt f δ = some (.int i)) : pSome f δ = some (some i) := by unfold pSome; rw [h]; rfl
theorem lst_of {fs : List EF} {δ : List Sl} {rs : List Rs} (h1 : evs fs δ = some rs) (h2 : rs.all Rs.isSh = true) (h3 : rs.length ≤ sizeLine) : fLst fs δ = some (.ow (rs.map Rs.dat)) := by
  unfold fLst; rw [h1, Option.bind_some, if_pos (by rw [h2, decide_eq_true h3]; rfl)]
theorem tup_of {fs : List EF} {δ : List Sl} {rs : List Rs} (h1 : evs fs δ = some rs) (h2 : rs.all Rs.isSh = true) (h3 : rs.length ≤ sizeLine) : fTup fs δ = some (.sh (.tup (rs.map Rs.dat))) := by
  unfold fTup; rw [h1, Option.bind_some, if_pos (by rw [h2, decide_eq_true h3]; rfl)]
mutual
theorem eqv_refl : ∀ d : Dm, PyData.eqv (toPy d) (toPy d) = true
  | .non => by simp [toPy, PyData.eqv]
  | .bl b => by simp [toPy, PyData.eqv]
  | .int i => by simp [toPy, PyData.eqv]
  | .str x => by simp [toPy, PyData.eqv]
  | .lst ds => by simp only [toPy, PyData.eqv]; exact eqvs_refl ds
  | .tup ds => by simp only [toPy, PyData.eqv]; exact eqvs_refl ds
theorem eqvs_refl : ∀ ds : List Dm, PyData.eqvAll (toPys ds) (toPys ds) = true
  | [] => by simp [toPys, PyData.eqvAll]
  | d :: ds => by simp only [toPys, PyData.eqvAll, Bool.and_eq_true]; exact ⟨eqv_refl d, eqvs_refl ds⟩
end
theorem oEq_same {neg : Bool} {d : Dm} (h : okEq d = true) : oEq neg d d = some (.bl (!neg)) := by
  unfold oEq
  rw [if_pos (by rw [h]; rfl)]
  have e : eqD d d = true := eqv_refl d
  rw [e]
  cases neg <;> rfl
theorem okEq_int' (i : Int) : okEq (.int i) = true := by simp [okEq, toPy, PySem.SeqAt.shaped, PyData.canLay0, PyData.depth]
/-- a list of data of small depth -/
theorem okEq_lst {ds : List Dm} (h : ∀ d ∈ ds, (toPy d).canLay0 = true ∧ (toPy d).depth ≤ 60) : okEq (.lst ds) = true := by
  have key : ∀ {ds : List Dm}, (∀ d ∈ ds, (toPy d).canLay0 = true ∧ (toPy d).depth ≤ 60) → PyData.canLayAll0 (toPys ds) = true ∧ PyData.depthAll (toPys ds) ≤ 60 := by
    intro ds
    induction ds with
    | nil => intro _; simp [toPys, PyData.canLayAll0, PyData.depthAll]
    | cons d ds ih =>
      intro h
      obtain ⟨a, b⟩ := ih fun x hx => h x (List.mem_cons_of_mem _ hx)
      obtain ⟨c, e⟩ := h d List.mem_cons_self
      simp only [toPys, PyData.canLayAll0, PyData.depthAll, Bool.and_eq_true]
      exact ⟨⟨c, a⟩, by omega⟩
  obtain ⟨a, b⟩ := key h
  simp only [okEq, toPy, PySem.SeqAt.shaped, PyData.canLay0, PyData.depth, Bool.and_eq_true, decide_eq_true_eq]
  exact ⟨a, by omega⟩
theorem loop_stay {i : Nat} {b : SF} {δ : List Sl} : ∀ (ds : List Dm) (s : Sl), (∀ d ∈ ds, b (δ.set i (.sh d)) = some (.nx (δ.set i (.sh d)))) → ∃ t, loopD (.nm i) b ds (δ.set i s) = some (.nx (δ.set i t))
  | [], s, _ => ⟨s, rfl⟩
  | d :: ds, s, h => by
    obtain ⟨t, e⟩ := loop_stay ds (.sh d) fun x hx => h x (List.mem_cons_of_mem _ hx)
    exact ⟨t, loop_cons (δ1 := δ.set i (.sh d)) (by show some ((δ.set i s).set i (.sh d)) = _; rw [List.set_set]) (h d List.mem_cons_self) e⟩
theorem not_of {f : BF'} {δ : List Sl} {b : Bool} (h : f δ = some b) : bNot f δ = some (!b) := by unfold bNot; rw [h]; rfl
theorem or_f {f g : BF'} {δ : List Sl} {b : Bool} (h : f δ = some false) (h2 : g δ = some b) : bOr f g δ = some b := by unfold bOr; rw [h]; exact h2
theorem or_t {f g : BF'} {δ : List Sl} (h : f δ = some true) : bOr f g δ = some true := by unfold bOr; rw [h]; rfl
theorem iL_of {f : EF} {δ : List Sl} {r : Rs} {ds : List Dm} (h : f δ = some r) (h2 : r.fz = .sh (.lst ds)) : iL f δ = some ds := by unfold iL; rw [fz_some h, Option.bind_some, h2]; rfl
theorem list_of {f : EF} {δ : List Sl} {ds : List Dm} (h : dt f δ = some (.lst ds)) : fList f δ = some (.ow ds) := by unfold fList; rw [h]; rfl
theorem neg_of {f : EF} {δ : List Sl} {i : Int} (h : dt f δ = some (.int i)) : fNeg f δ = some (.sh (.int (-i))) := by unfold fNeg; rw [h]; rfl
theorem rep_of {fa fb : EF} {δ : List Sl} {xs : List Dm} {n : Nat} (h1 : dt fa δ = some (.lst xs)) (h2 : dt fb δ = some (.int (n : Int))) (h3 : xs.length * n ≤ sizeLine) (hn : n ≤ 1000000) : fRep fa fb δ = some (.ow (List.replicate n xs).flatten) := by
  unfold fRep
  have e : repOk xs.length (n : Int) = true := okB_of ⟨by omega, by omega, by rw [Int.toNat_natCast]; exact h3⟩
  rw [h1, Option.bind_some, h2, Option.bind_some, lst?_lst, Option.bind_some, int?_int, Option.bind_some, if_pos e, Int.toNat_natCast]
theorem not_t {f : BF'} {δ : List Sl} (h : f δ = some true) : bNot f δ = some false := not_of h
theorem not_f {f : BF'} {δ : List Sl} (h : f δ = some false) : bNot f δ = some true := not_of h
theorem ne_same {fa fb : EF} {δ : List Sl} {d : Dm} (h1 : dt fa δ = some d) (h2 : dt fb δ = some d) (h : okEq d = true) : op2 (oEq true) fa fb δ = some (.sh (.bl false)) := op2_of h1 h2 (oEq_same h)
theorem eq_same {fa fb : EF} {δ : List Sl} {d : Dm} (h1 : dt fa δ = some d) (h2 : dt fb δ = some d) (h : okEq d = true) : op2 (oEq false) fa fb δ = some (.sh (.bl true)) := op2_of h1 h2 (oEq_same h)
theorem line24 : sizeLine = 16777216 := sizeLine_eq
theorem rng_len (lo : Int) (n : Nat) : (rng lo n).length = n := by unfold rng; simp
end BF
set_option Elab.async false
set_option linter.all false
set_option maxRecDepth 100000
set_option maxHeartbeats 4000000
namespace BF
open PySem PySem.Spec PyProof.Rows L2
noncomputable section
variable {X : Cx}

/-! ### either of two rules -/
theorem OpR.or {f : Value → Value → Sem Value} {r r' : R2} (h : OpR X f r) (h' : OpR X f r') : OpR X f (fun x y H Q => r x y H Q ∨ r' x y H Q) := by
  intro pins s σ H x y v u Q I rx ry q
  rcases q with q | q
  · exact h pins s σ H x y v u Q I rx ry q
  · exact h' pins s σ H x y v u Q I rx ry q
theorem PI.or {tg e : Expr} {t t' : TI} (h : PI X tg e t) (h' : PI X tg e t') : PI X tg e (fun σ H R => t σ H R ∨ t' σ H R) := fun pins s σ H R I q => q.elim (h pins s σ H R I) (h' pins s σ H R I)
theorem rep_v {K : PySem.W.Frag} {G : Hp} {d : Dm} {v : V} (h : Rep K G d v) (s : d.scal = true) : v = vOf d := by
  cases d with
  | lst ds => exact absurd (show false = true from s) Bool.false_ne_true
  | tup ds => exact absurd (show false = true from s) Bool.false_ne_true
  | _ => unfold Rep at h; exact h
theorem reps_v {K : PySem.W.Frag} {G : Hp} : ∀ {ds : List Dm} {xs : List V}, Reps K G ds xs → ds.all Dm.scal = true → xs = ds.map vOf
  | [], xs, h, _ => by unfold Reps at h; exact h
  | d :: ds, xs, h, a => by
    unfold Reps at h
    obtain ⟨v, r, e, q, t⟩ := h
    rw [List.all_cons, Bool.and_eq_true] at a
    rw [e, rep_v q a.1, reps_v t a.2]; rfl

/-! ### texts: + -/
def oScat : Dm → Dm → Option Dm
  | .str i, .str j => if i.length + j.length ≤ sizeLine then some (.str (i ++ j)) else none
  | _, _ => none
theorem op2_scat {K : PySem.W.Frag} : Op2 K (fun x y H Q => ∃ i j, x = .str i ∧ y = .str j ∧ i.length + j.length ≤ sizeLine ∧ Q (.str (i ++ j)) H) oScat := by
  intro x y H a b d Q ra rb e
  unfold oScat at e
  split at e
  · split at e
    · rename_i h
      cases e
      unfold Rep at ra rb
      exact ⟨rfl, fun q => ⟨_, _, ra, rb, h, q⟩⟩
    · cases e
  · cases e
theorem pd_scat {a b : Expr} {pos : Pos} {fa fb : EF} (ha : PD X a fa) (hb : PD X b fb) : PD X (.BinOp a .Add b pos) (op2 oScat fa fb) := pd_op2 op_add_str op2_scat ha hb

/-! ### in, not in -/
theorem flat_v {d : Dm} (h : d.scal = true) : flatV (vOf d) = true := by
  cases d with
  | lst ds => exact absurd (show false = true from h) Bool.false_ne_true
  | tup ds => exact absurd (show false = true from h) Bool.false_ne_true
  | _ => rfl
theorem flat_vs : ∀ {ds : List Dm}, ds.all Dm.scal = true → (ds.map vOf).all flatV = true
  | [], _ => rfl
  | d :: ds, h => by
    rw [List.all_cons, Bool.and_eq_true] at h
    rw [List.map_cons, List.all_cons, flat_v h.1, flat_vs h.2]; rfl
def inD (a : Dm) (ds : List Dm) : Bool := inV (vOf a) (ds.map vOf)
def inS (i j : Str) : Bool := !(Builtin.Str.occurrences j i 0 j.length 1).isEmpty
def seqs? : Dm → Option (List Dm)
  | .lst ds => some ds
  | .tup ds => some ds
  | _ => none
def strs2? : Dm → Dm → Option (Str × Str)
  | .str i, .str j => some (i, j)
  | _, _ => none
theorem strs2_some {a b : Dm} {p : Str × Str} (e : strs2? a b = some p) : a = .str p.1 ∧ b = .str p.2 := by
  unfold strs2? at e
  split at e
  · cases e; exact ⟨rfl, rfl⟩
  · cases e
def oIn (neg : Bool) : Dm → Dm → Option Dm := fun a b => match strs2? a b with
  | some p => some (.bl (if neg then !inS p.1 p.2 else inS p.1 p.2))
  | none => (seqs? b).bind fun ds => if a.scal && ds.all Dm.scal then some (.bl (if neg then !inD a ds else inD a ds)) else none
def rIn2 (K : PySem.W.Frag) (neg : Bool) : R2 := fun x y H Q => rIn K neg x y H Q ∨ ∃ i j, x = .str i ∧ y = .str j ∧ Q (.bl (if neg then !(!(Builtin.Str.occurrences j i 0 j.length 1).isEmpty) else !(Builtin.Str.occurrences j i 0 j.length 1).isEmpty)) H
theorem op_in2 : OpR X (compareOp .In) (rIn2 X.K false) := OpR.or op_in_seq op_in_str
theorem op_notIn2 : OpR X (compareOp .NotIn) (rIn2 X.K true) := OpR.or op_notIn_seq op_notIn_str
theorem op2_in {K : PySem.W.Frag} (neg : Bool) : Op2 K (rIn2 K neg) (oIn neg) := by
  intro x y H a b d Q ra rb e
  unfold oIn at e
  cases hs : strs2? a b with
  | some p =>
    rw [hs] at e
    cases e
    obtain ⟨rfl, rfl⟩ := strs2_some hs
    unfold Rep at ra rb
    exact ⟨rfl, fun q => .inr ⟨_, _, ra, rb, q⟩⟩
  | none =>
    rw [hs] at e
    obtain ⟨ds, ed, e⟩ := Option.bind_eq_some_iff.mp e
    by_cases hc : (a.scal && ds.all Dm.scal) = true
    · rw [if_pos hc] at e
      cases e
      rw [Bool.and_eq_true] at hc
      refine ⟨rfl, fun q => .inl ?_⟩
      have ex := rep_v ra hc.1
      unfold seqs? at ed
      split at ed
      · cases ed
        unfold Rep at rb
        obtain ⟨p, xs, rfl, hq, rr⟩ := rb
        have exs := reps_v rr hc.2
        subst ex exs
        exact ⟨p, _, rfl, .inl hq, flat_v hc.1, flat_vs hc.2, q⟩
      · cases ed
        unfold Rep at rb
        obtain ⟨p, xs, rfl, hq, rr⟩ := rb
        have exs := reps_v rr hc.2
        subst ex exs
        exact ⟨p, _, rfl, .inr hq, flat_v hc.1, flat_vs hc.2, q⟩
      · cases ed
    · rw [if_neg hc] at e; cases e
section
variable {a b : Expr} {pos : Pos} {fa fb : EF}
theorem pd_in (ha : PD X a fa) (hb : PD X b fb) (hm : behindInMarks .In b = false) : PD X (.Compare a [.In] [b] pos) (op2 (oIn false) fa fb) := pd_cmp op_in2 (op2_in false) ha hb hm
theorem pd_nin (ha : PD X a fa) (hb : PD X b fb) (hm : behindInMarks .NotIn b = false) : PD X (.Compare a [.NotIn] [b] pos) (op2 (oIn true) fa fb) := pd_cmp op_notIn2 (op2_in true) ha hb hm
theorem pt_in (ha : PD X a fa) (hb : PD X b fb) (hm : behindInMarks .In b = false) : PTD X (.Compare a [.In] [b] pos) (bB (op2 (oIn false) fa fb)) := pt_c op_in2 (op2_in false) ha hb hm
theorem pt_nin (ha : PD X a fa) (hb : PD X b fb) (hm : behindInMarks .NotIn b = false) : PTD X (.Compare a [.NotIn] [b] pos) (bB (op2 (oIn true) fa fb)) := pt_c op_notIn2 (op2_in true) ha hb hm
end
/-! ### is None -/
def isNon : Dm → Bool
  | .non => true
  | _ => false
theorem rep_non {K : PySem.W.Frag} {G : Hp} {d : Dm} {v : V} (h : Rep K G d v) : decide (v = V.non) = isNon d := by
  cases d with
  | non => unfold Rep at h; subst h; rfl
  | bl b => unfold Rep at h; subst h; rfl
  | int i => unfold Rep at h; subst h; rfl
  | str z => unfold Rep at h; subst h; rfl
  | lst ds => unfold Rep at h; obtain ⟨a, xs, rfl, _⟩ := h; rfl
  | tup ds => unfold Rep at h; obtain ⟨a, xs, rfl, _⟩ := h; rfl
def oIs (neg : Bool) : Dm → Dm → Option Dm
  | a, .non => some (.bl (if neg then !isNon a else isNon a))
  | _, _ => none
theorem op2_is {K : PySem.W.Frag} : Op2 K (fun x y H Q => y = .non ∧ Q (.bl (decide (x = .non))) H) (oIs false) := by
  intro x y H a b d Q ra rb e
  unfold oIs at e
  split at e
  · cases e
    unfold Rep at rb
    exact ⟨rfl, fun q => ⟨rb, by rw [rep_non ra]; exact q⟩⟩
  · cases e
theorem op2_isnot {K : PySem.W.Frag} : Op2 K (fun x y H Q => y = .non ∧ Q (.bl (!decide (x = .non))) H) (oIs true) := by
  intro x y H a b d Q ra rb e
  unfold oIs at e
  split at e
  · cases e
    unfold Rep at rb
    exact ⟨rfl, fun q => ⟨rb, by rw [rep_non ra]; exact q⟩⟩
  · cases e
section
variable {a b : Expr} {pos : Pos} {fa fb : EF}
theorem pd_is (ha : PD X a fa) (hb : PD X b fb) : PD X (.Compare a [.Is] [b] pos) (op2 (oIs false) fa fb) := pd_cmp op_isN op2_is ha hb (nomark _)
theorem pd_isnot (ha : PD X a fa) (hb : PD X b fb) : PD X (.Compare a [.IsNot] [b] pos) (op2 (oIs true) fa fb) := pd_cmp op_notN op2_isnot ha hb (nomark _)
theorem pt_is (ha : PD X a fa) (hb : PD X b fb) : PTD X (.Compare a [.Is] [b] pos) (bB (op2 (oIs false) fa fb)) := pt_c op_isN op2_is ha hb (nomark _)
theorem pt_isnot (ha : PD X a fa) (hb : PD X b fb) : PTD X (.Compare a [.IsNot] [b] pos) (bB (op2 (oIs true) fa fb)) := pt_c op_notN op2_isnot ha hb (nomark _)
end

/-! ### str(..), int(..), max, abs, all, any -/
def rStrS : List V → Hp → VK → Prop := fun xs H Q => ∃ x, xs = [.str x] ∧ Q (.str x) H
theorem call_str_str : CallR X (.type "str") rStrS := by
  intro pins s σ H xs us Q I r h
  obtain ⟨x, rfl, q⟩ := h
  obtain ⟨u, rfl, t, rfl⟩ := vals1 r
  exact PySem.P.str_of_str ⟨.str x, H, I, ⟨_, rfl⟩, q⟩
def strI (i : Int) : Str := toString i
def oStr : List Dm → Option Dm
  | [.int i] => if i.natAbs.log2 < 1920 then some (.str (strI i)) else none
  | [.str z] => some (.str z)
  | _ => none
theorem cs_str {K : PySem.W.Frag} : CallS K (fun xs H Q => (∃ i, xs = [.int i] ∧ i.natAbs.log2 < 1920 ∧ Q (.str (toString i)) H) ∨ rStrS xs H Q) oStr := by
  intro vs H ds d Q h e
  unfold oStr at e
  split at e
  · split at e
    · rename_i hz
      cases e
      obtain ⟨v, rfl, q⟩ := reps1 h
      unfold Rep at q
      subst q
      exact ⟨rfl, fun k => .inl ⟨_, rfl, hz, k⟩⟩
    · cases e
  · cases e
    obtain ⟨v, rfl, q⟩ := reps1 h
    unfold Rep at q
    subst q
    exact ⟨rfl, fun k => .inr ⟨_, rfl, k⟩⟩
  · cases e
theorem call_strs : CallR X (.type "str") (fun xs H Q => (∃ i, xs = [.int i] ∧ i.natAbs.log2 < 1920 ∧ Q (.str (toString i)) H) ∨ rStrS xs H Q) := CallR.or call_str_int call_str_str
def rIntS : List V → Hp → VK → Prop := fun xs H Q => ∃ x n, xs = [.str x] ∧ x.length ≤ 640 ∧ intText? x = some n ∧ Q (.int n) H
theorem call_int_text : CallR X (.type "int") rIntS := by
  intro pins s σ H xs us Q I r h
  obtain ⟨x, n, rfl, hl, hn, q⟩ := h
  obtain ⟨u, rfl, t, rfl⟩ := vals1 r
  exact PySem.W.KIN.call_text hn hl ⟨.int n, H, I.tok _, ⟨_, rfl⟩, q⟩
def oInt : List Dm → Option Dm
  | [.int i] => some (.int i)
  | [.bl b] => some (.int (if b then 1 else 0))
  | [.str z] => if z.length ≤ 640 then (intText? z).map .int else none
  | _ => none
theorem call_ints : CallR X (.type "int") (fun xs H Q => ((∃ i, xs = [.int i] ∧ Q (.int i) H) ∨ ∃ k, xs = [.bl k] ∧ Q (.int (if k then 1 else 0)) H) ∨ rIntS xs H Q) := CallR.or call_int1 call_int_text
theorem cs_int {K : PySem.W.Frag} : CallS K (fun xs H Q => ((∃ i, xs = [.int i] ∧ Q (.int i) H) ∨ ∃ k, xs = [.bl k] ∧ Q (.int (if k then 1 else 0)) H) ∨ rIntS xs H Q) oInt := by
  intro vs H ds d Q h e
  unfold oInt at e
  split at e
  · cases e
    obtain ⟨v, rfl, q⟩ := reps1 h
    unfold Rep at q
    subst q
    exact ⟨rfl, fun k => .inl (.inl ⟨_, rfl, k⟩)⟩
  · cases e
    obtain ⟨v, rfl, q⟩ := reps1 h
    unfold Rep at q
    subst q
    exact ⟨rfl, fun k => .inl (.inr ⟨_, rfl, k⟩)⟩
  · split at e
    · rename_i hz
      obtain ⟨n, en, e⟩ := Option.map_eq_some_iff.mp e
      subst e
      obtain ⟨v, rfl, q⟩ := reps1 h
      unfold Rep at q
      subst q
      exact ⟨rfl, fun k => .inr ⟨_, n, rfl, hz, en, k⟩⟩
    · cases e
  · cases e
def oMax : List Dm → Option Dm
  | [.int i, .int j] => some (.int (if j > i then j else i))
  | _ => none
theorem cs_max {K : PySem.W.Frag} : CallS K (fun xs H Q => ∃ i j, xs = [.int i, .int j] ∧ Q (.int (if j > i then j else i)) H) oMax := by
  intro vs H ds d Q h e
  unfold oMax at e
  split at e
  · cases e
    obtain ⟨v, u, rfl, q, q'⟩ := reps2 h
    unfold Rep at q q'
    subst q q'
    exact ⟨rfl, fun k => ⟨_, _, rfl, k⟩⟩
  · cases e
def oAbs : List Dm → Option Dm
  | [.int i] => some (.int (if i < 0 then -i else i))
  | _ => none
theorem cs_abs {K : PySem.W.Frag} : CallS K (fun xs H Q => ∃ i, xs = [.int i] ∧ Q (.int (if i < 0 then -i else i)) H) oAbs := by
  intro vs H ds d Q h e
  unfold oAbs at e
  split at e
  · cases e
    obtain ⟨v, rfl, q⟩ := reps1 h
    unfold Rep at q
    subst q
    exact ⟨rfl, fun k => ⟨_, rfl, k⟩⟩
  · cases e
def bls? : List Dm → Option (List Bool)
  | [] => some []
  | d :: ds => d.bl?.bind fun i => (bls? ds).map fun r => i :: r
theorem bls_some : ∀ {ds : List Dm} {ns : List Bool}, bls? ds = some ns → ds = ns.map .bl
  | [], ns, e => by cases e; rfl
  | d :: ds, ns, e => by
    obtain ⟨i, ei, e⟩ := Option.bind_eq_some_iff.mp (show (d.bl?.bind fun i => (bls? ds).map fun r => i :: r) = some ns from e)
    obtain ⟨r, er, e⟩ := Option.map_eq_some_iff.mp e
    subst e
    rw [bl_some ei, bls_some er]; rfl
theorem reps_bls {K : PySem.W.Frag} {H : Hp} : ∀ {ns : List Bool} {xs : List V}, Reps K H (ns.map .bl) xs → xs = ns.map .bl
  | [], xs, h => by unfold List.map Reps at h; exact h
  | n :: ns, xs, h => by
    unfold List.map Reps at h
    obtain ⟨v, r, e, q, t⟩ := h
    unfold Rep at q
    rw [e, q, reps_bls t]; rfl
theorem vals_bls : ∀ {bs : List Bool} {us : List Value}, Vals (bs.map V.bl) us → us = bs.map Value.bool
  | [], us, h => by cases h; rfl
  | b :: bs, us, h => by
    cases h with
    | cons r t => rw [vals_bls t]; cases r; rfl
theorem all_range (bs : List Bool) : (List.range bs.length).all (fun i => bs.getD i false) = bs.all id := by
  induction bs with
  | nil => rfl
  | cons b bs ih =>
    rw [List.length_cons, List.range_succ_eq_map, List.all_cons, List.all_map, List.all_cons, ← ih]
    rfl
theorem any_range (bs : List Bool) : (List.range bs.length).any (fun i => bs.getD i false) = bs.any id := by
  induction bs with
  | nil => rfl
  | cons b bs ih =>
    rw [List.length_cons, List.range_succ_eq_map, List.any_cons, List.any_map, List.any_cons, ← ih]
    rfl
def rAll (K : PySem.W.Frag) (f : List Bool → Bool) : List V → Hp → VK → Prop := fun xs H Q => ∃ (p : Addr) (bs : List Bool), xs = [.ref p] ∧ SqL K H p (bs.map V.bl) ∧ Q (.bl (f bs)) H
theorem truth_bls {w : World} {prog : Program} {A : Around} (bs : List Bool) : TruthOf prog w A (fun i v => (bs.map Value.bool).toArray[i]? = some v) (fun i => bs.getD i false) := by
  intro i v s Q E hv hq
  have e : (bs.map Value.bool)[i]? = some v := by simpa using hv
  rw [List.getElem?_map] at e
  obtain ⟨b, eb, e⟩ := Option.map_eq_some_iff.mp e
  subst e
  have hq' : Q (bs.getD i false) s := hq
  rw [List.getD_eq_getElem?_getD, eb] at hq'
  exact wpAny_truthy_bool hq'
theorem call_all (hc : X.calm = true) : CallR X (.builtin "all") (rAll X.K fun bs => bs.all id) := by
  intro pins s σ H xs us Q I r h
  obtain ⟨p, bs, rfl, hq, q⟩ := h
  obtain ⟨u, rfl, rx⟩ := vals1 r
  cases rx
  obtain ⟨its, rv, pl, hz⟩ := I.list hq
  have hb := vals_bls rv
  subst hb
  have hlt : p < s.heap.objs.size := by
    obtain ⟨o, e, _⟩ := pl.isList
    exact Heap.lt_size e
  refine call_all_walk (wpAny_pyIter_list pl.isList ?_)
  refine ⟨_, _, _, _, _, _, _, rfl, Walks.list (A := X.A.in1) (I.ok.hd hc) s.heap.objs.size p (Nat.ne_of_lt hlt) (bs.map Value.bool).toArray, ?_, truth_bls bs, fun h' tk hk => ?_⟩
  · exact ⟨⟨_, Heap.get?_push_size _ rfl, rfl, rfl⟩, pl.isList.push _⟩
  · refine ⟨.bl (bs.all id), H, ?_, ?_, q⟩
    · exact I.kept fun b o e => hk b o (by simp; exact Nat.ne_of_lt (Heap.lt_size e)) (Heap.get?_push_of_some _ e)
    · have : (bs.map Value.bool).toArray.size = bs.length := by simp
      rw [this, all_range]
      rfl
theorem call_any (hc : X.calm = true) : CallR X (.builtin "any") (rAll X.K fun bs => bs.any id) := by
  intro pins s σ H xs us Q I r h
  obtain ⟨p, bs, rfl, hq, q⟩ := h
  obtain ⟨u, rfl, rx⟩ := vals1 r
  cases rx
  obtain ⟨its, rv, pl, hz⟩ := I.list hq
  have hb := vals_bls rv
  subst hb
  have hlt : p < s.heap.objs.size := by
    obtain ⟨o, e, _⟩ := pl.isList
    exact Heap.lt_size e
  refine call_any_walk (wpAny_pyIter_list pl.isList ?_)
  refine ⟨_, _, _, _, _, _, _, rfl, Walks.list (A := X.A.in1) (I.ok.hd hc) s.heap.objs.size p (Nat.ne_of_lt hlt) (bs.map Value.bool).toArray, ?_, truth_bls bs, fun h' tk hk => ?_⟩
  · exact ⟨⟨_, Heap.get?_push_size _ rfl, rfl, rfl⟩, pl.isList.push _⟩
  · refine ⟨.bl (bs.any id), H, ?_, ?_, q⟩
    · exact I.kept fun b o e => hk b o (by simp; exact Nat.ne_of_lt (Heap.lt_size e)) (Heap.get?_push_of_some _ e)
    · have : (bs.map Value.bool).toArray.size = bs.length := by simp
      rw [this, any_range]
      rfl
def oAll (f : List Bool → Bool) : List Dm → Option Dm
  | [.lst ds] => (bls? ds).map fun bs => .bl (f bs)
  | _ => none
theorem cs_all {K : PySem.W.Frag} {f : List Bool → Bool} : CallS K (rAll K f) (oAll f) := by
  intro vs H ds d Q h e
  unfold oAll at e
  split at e
  · obtain ⟨ns, en, e⟩ := Option.map_eq_some_iff.mp e
    subst e
    obtain ⟨v, rfl, q⟩ := reps1 h
    unfold Rep at q
    obtain ⟨a, xs, rfl, hq, rr⟩ := q
    rw [bls_some en] at rr
    exact ⟨rfl, fun k => ⟨a, ns, rfl, by rw [← reps_bls rr]; exact hq, k⟩⟩
  · cases e
/-- tuple(e) -/
def fTuple (f : EF) : EF := fun δ => (fz f δ).bind fun r => (seqs? r.dat).bind fun ds => match r with
  | .al _ _ => some (.sh (.tup ds))
  | _ => some (.sh (.tup ds))
theorem pd_tuple {e : Expr} {f : EF} {p pos : Pos} (h : PD X e f) (hg : Gl X "tuple") (hm : X.mg "tuple" = none) (hv : bootBuiltins "tuple" = some (.type "tuple")) (he : starEach [e] X.env = (false, eval e X.env) :: starEach [] X.env := by rfl) : PD X (.Call (.Name "tuple" p) [e] [] pos) (fTuple f) := by
  refine PE.imp (pe_callTy call_tuple_of hg hm hv (pad_cons h pad_nil he) (by decide +kernel) (by decide +kernel) he) fun σ H Q h => ?_
  obtain ⟨B, G0, G, δ, r0, S, e, k⟩ := h
  obtain ⟨r, er, e⟩ := Option.bind_eq_some_iff.mp e
  obtain ⟨ds, eds, e⟩ := Option.bind_eq_some_iff.mp e
  obtain ⟨ra, era, er⟩ := Option.map_eq_some_iff.mp er
  subst er
  have e' : r0 = .sh (.tup ds) := by split at e <;> exact (Option.some.inj e).symm
  subst e'
  refine ⟨B, G0, G, δ, [ra.fz], S, by unfold evs evs; rw [era]; rfl, fun vs G1 H1 S1 g1 q1 => ?_⟩
  obtain ⟨v, rfl, q⟩ := RsRs.one q1
  have k1 := KD.step ⟨S, k⟩ S1 g1
  cases hd : ra.fz.dat with
  | lst es =>
    rw [hd] at eds; cases eds
    obtain ⟨a, xs, rfl, hq, rr⟩ := RsR.lst S1 q hd
    exact ⟨a, xs, rfl, .inl ⟨hq, fun l hl => k1.newT rr hl⟩⟩
  | tup es =>
    rw [hd] at eds; cases eds
    have hsh : ra.fz = .sh (.tup ds) := by
      cases hr : ra.fz with
      | sh d => rw [hr] at hd; rw [show d = .tup ds from hd]
      | ow xs => rw [hr] at hd; cases hd
      | al i xs => rw [hr] at hd; cases hd
      | ft pre es => have z := ra.fz_still; rw [hr] at z; cases z
    obtain ⟨a, xs, rfl, hq, rr⟩ := RsR.tup S1 q (by cases ra <;> rfl) hd
    rw [hsh] at q
    exact ⟨a, xs, rfl, .inr ⟨hq, k1.now q⟩⟩
  | non => rw [hd] at eds; cases eds
  | bl b => rw [hd] at eds; cases eds
  | int i => rw [hd] at eds; cases eds
  | str z => rw [hd] at eds; cases eds

/-! ### methods of texts, a scalar out -/
def fM (o : Dm → List Dm → Option Dm) (fa : EF) (fs : List EF) : EF := fun δ => (dt fa δ).bind fun a => (evs fs δ).bind fun rs => (o a (rs.map Rs.dat)).map .sh
def MtS (K : PySem.W.Frag) (r : V → List V → Hp → VK → Prop) (o : Dm → List Dm → Option Dm) : Prop := ∀ x vs H a ds d Q, Rep K H a x → Reps K H ds vs → o a ds = some d → (∃ z, a = .str z) ∧ d.scal = true ∧ (Q (vOf d) H → r x vs H Q)
theorem fM_run {K : PySem.W.Frag} {r : V → List V → Hp → VK → Prop} {o : Dm → List Dm → Option Dm} {fa : EF} {fs : List EF} (hs : MtS K r o) (hz : ∀ a ds d, o a ds = some d → ∃ z, a = .str z) {σ : L2.St} {H : Hp} {Q : VK} (h : tD K (fM o fa fs) σ H Q) : tBM K "str" r (tD K (fz fa)) (tAD K fs) σ H Q := by
  obtain ⟨B, G0, G, δ, r0, S, e, k⟩ := h
  obtain ⟨a, ea, e⟩ := Option.bind_eq_some_iff.mp e
  obtain ⟨ra, era, rfl⟩ := dt_some ea
  obtain ⟨rs, ers, e⟩ := Option.bind_eq_some_iff.mp e
  obtain ⟨d, ed, e⟩ := Option.map_eq_some_iff.mp e
  subst e
  obtain ⟨z, ez⟩ := hz _ _ _ ed
  refine run1 ⟨S, k⟩ era fun x G1 H1 k1 g1 q1 => ?_
  have r1 := RsR.rep k1.sim q1
  rw [Rs.fz_dat, ez] at r1
  unfold Rep at r1
  subst r1
  refine ⟨rfl, B, G0, G1, δ, rs, k1.sim, ers, fun vs G2 H2 S2 g2 q2 => ?_⟩
  have k2 := k1.step S2 g2
  obtain ⟨_, sc, go⟩ := hs (.str z) vs H2 ra.dat _ d Q (by rw [ez]; unfold Rep; rfl) (RsRs.repsH S2 q2) ed
  exact go (k2.now (rep_scal sc))
theorem pd_m {o e : Expr} {es : List Expr} {name : Str} {id : String} {apos cpos : Pos} {r : V → List V → Hp → VK → Prop} {op : Dm → List Dm → Option Dm} {fa : EF} {fs : List EF} (slot : Slot "str" name id) (hty : typeOf (.builtin id) = pure (.type "method_descriptor")) (hm : MtR X id r) (hs : MtS X.K r op) (hz : ∀ a ds d, op a ds = some d → ∃ z, a = .str z) (ho : PD X o fa) (ha : PAD X (e :: es) fs)
    (hbase : attributeBase o name X.env (eval o X.env) = eval o X.env := by rfl)
    (hfew : ((backTo cpos (starEach (e :: es) X.env)).all (fun x => !x.1) && (backToKw cpos (keywordEach [] X.env)).all (fun x => x.1.isSome)
      && decide ((e :: es).length + ([] : List Keyword).length + (if ([] : List Keyword).isEmpty then 0 else 1) < 30)) = true := by rfl)
    (hline : (apos.endLine == cpos.line) = true := by rfl) (hst : starEach (e :: es) X.env = (false, eval e X.env) :: starEach es X.env := by rfl) (hplain : (backTo cpos (starEach es X.env)).any (·.1) = false := by rfl) :
    PD X (.Call (.Attribute o name apos) (e :: es) [] cpos) (fM op fa fs) :=
  PE.imp (pe_bm PySem.F.plainAttrs_str slot hty hm ho.fz ha hbase hfew hline hst hplain) fun _ _ _ h => fM_run hs hz h
def strsD? : List Dm → Option (List Str)
  | [] => some []
  | .str z :: ds => (strsD? ds).map fun r => z :: r
  | _ :: _ => none
theorem strsD_some : ∀ {ds : List Dm} {ns : List Str}, strsD? ds = some ns → ds = ns.map .str
  | [], ns, e => by cases e; rfl
  | .str z :: ds, ns, e => by
    obtain ⟨r, er, e⟩ := Option.map_eq_some_iff.mp (show ((strsD? ds).map fun r => z :: r) = some ns from e)
    subst e
    rw [strsD_some er]; rfl
  | .non :: ds, ns, e => by cases e
  | .bl _ :: ds, ns, e => by cases e
  | .int _ :: ds, ns, e => by cases e
  | .lst _ :: ds, ns, e => by cases e
  | .tup _ :: ds, ns, e => by cases e
theorem reps_strs {K : PySem.W.Frag} {H : Hp} : ∀ {ns : List Str} {xs : List V}, Reps K H (ns.map .str) xs → xs = ns.map .str
  | [], xs, h => by unfold List.map Reps at h; exact h
  | n :: ns, xs, h => by
    unfold List.map Reps at h
    obtain ⟨v, r, e, q, t⟩ := h
    unfold Rep at q
    rw [e, q, reps_strs t]; rfl
theorem strsAre_of : ∀ {ys : List Str} {us : List Value}, Vals (ys.map V.str) us → StrsAre us ys
  | [], us, h => by cases h; exact .nil
  | y :: ys, us, h => by
    cases h with
    | cons r t => obtain ⟨k, rfl⟩ := r; exact .cons y k (strsAre_of t)
def rJoin (K : PySem.W.Frag) : V → List V → Hp → VK → Prop := fun x xs H Q => ∃ z p ys, x = .str z ∧ xs = [.ref p] ∧ SqL K H p (ys.map V.str) ∧ (ys.map (·.length)).sum + ys.length * z.length ≤ 16777216 ∧ Q (.str (Txt.join z ys)) H
theorem mt_join : MtR X "str.join" (rJoin X.K) := by
  intro pins s σ H x xs v us Q I rx rv h
  obtain ⟨z, p, ys, rfl, rfl, hq, hl, q⟩ := h
  obtain ⟨t, rfl⟩ := rx
  obtain ⟨u, rfl, ru⟩ := vals1 rv
  cases ru
  obtain ⟨its, r, pl, _⟩ := I.list hq
  exact join_list pl.isList (by simpa using strsAre_of r) hl fun t' k => ⟨.str _, H, I.tok _, ⟨_, rfl⟩, q⟩
def oJoin : Dm → List Dm → Option Dm
  | .str z, [.lst ds] => (strsD? ds).bind fun ys => if (ys.map (·.length)).sum + ys.length * z.length ≤ 16777216 then some (.str (Txt.join z ys)) else none
  | _, _ => none
theorem ms_join {K : PySem.W.Frag} : MtS K (rJoin K) oJoin := by
  intro x vs H a ds d Q ra rs e
  unfold oJoin at e
  split at e
  · obtain ⟨ys, ey, e⟩ := Option.bind_eq_some_iff.mp e
    split at e
    · rename_i hl
      cases e
      obtain ⟨v, rfl, q⟩ := reps1 rs
      unfold Rep at ra q
      obtain ⟨p, xs, rfl, hq, rr⟩ := q
      rw [strsD_some ey] at rr
      exact ⟨⟨_, rfl⟩, rfl, fun k => ⟨_, p, ys, ra, rfl, by rw [← reps_strs rr]; exact hq, hl, k⟩⟩
    · cases e
  · cases e
theorem oJoin_str : ∀ a ds d, oJoin a ds = some d → ∃ z, a = .str z := by
  intro a ds d e
  unfold oJoin at e
  split at e
  · exact ⟨_, rfl⟩
  · cases e
/-- z.split(y) -/
def fSplit (fa fb : EF) : EF := fun δ => (dt fa δ).bind fun a => (dt fb δ).bind fun b => (strs2? a b).bind fun p => if (p.2.length == 0) = false ∧ p.1.length + 2 ≤ sizeLine then some (.ow ((Txt.split p.1 p.2).map .str)) else none
def rSplit : V → List V → Hp → VK → Prop := fun x xs H Q => ∃ z y, x = .str z ∧ xs = [.str y] ∧ (y.length == 0) = false ∧ z.length + 2 ≤ sizeLine ∧ ∀ l, H l = none → Q (.ref l) (upd H l (.lst ((Txt.split z y).map V.str)))
theorem vals_strs : ∀ (l : List (Str × Tok)), Vals ((l.map (·.1)).map V.str) (strValues l)
  | [] => .nil
  | (z, t) :: l => .cons ⟨t, rfl⟩ (vals_strs l)
theorem mt_split : MtR X "str.split" rSplit := by
  intro pins s σ H x xs v us Q I rx rv h
  obtain ⟨z, y, rfl, rfl, hy, hz, q⟩ := h
  obtain ⟨t, rfl⟩ := rx
  obtain ⟨u, rfl, ru⟩ := vals1 rv
  obtain ⟨t', rfl⟩ := ru
  have fin : ∀ (l : List (Str × Tok)) (k : Nat), l.map (·.1) = Txt.split z y → l.length ≤ sizeLine → EP X pins σ Q (.ref s.heap.objs.size) { s with heap := s.heap.push { cls := .type "list", data := .seq (strValues l).toArray }, toks := k } := fun l k e hl => by
    have hv := vals_strs l
    rw [e] at hv
    refine ⟨.ref _, _, I.lnew (t' := k) hv ?_, rfl, q _ I.fresh⟩
    rw [← e, List.length_map, List.length_map]; exact hl
  have one : ([(z, t)] : List (Str × Tok)).length ≤ sizeLine := by show 1 ≤ sizeLine; rw [sizeLine_eq]; decide
  have hn : (Builtin.Str.partsBetween z (Builtin.Str.occurrences z y 0 z.length (z.length + 1)) y.length).length ≤ sizeLine := by
    have b := StrLaws.occ_length_le z y 0 z.length (z.length + 1)
    rw [length_partsBetween]
    omega
  by_cases h1 : (decide (z.length < y.length) || decide (Builtin.Str.strKind z < Builtin.Str.strKind y)) = true
  · exact call_meets F.slot_str_split (typeIs_str _ _ _) F.entry_str_split (F.args_str_split_2 _ _) (meets_str_split_cannot_occur z y t t' h1) (fin [(z, t)] s.toks (if_pos h1).symm one)
  · have h1' := Bool.eq_false_iff.mpr h1
    by_cases hf : (Builtin.Str.occurrences z y 0 z.length (z.length + 1)).isEmpty = true
    · exact call_meets F.slot_str_split (typeIs_str _ _ _) F.entry_str_split (F.args_str_split_2 _ _) (meets_str_split_not_found z y t t' h1' hy hf) (fin [(z, t)] s.toks ((if_neg h1).trans (if_pos hf)).symm one)
    · refine call_meets F.slot_str_split (typeIs_str _ _ _) F.entry_str_split (F.args_str_split_2 _ _) (meets_str_split_sep z y t t' h1' hy (Bool.eq_false_iff.mpr hf) (by omega) hn) ?_
      have e := strsFrom_eq s.toks (Builtin.Str.partsBetween z (Builtin.Str.occurrences z y 0 z.length (z.length + 1)) y.length)
      have g := fin (numbered s.toks (Builtin.Str.partsBetween z (Builtin.Str.occurrences z y 0 z.length (z.length + 1)) y.length)) (s.toks + (Builtin.Str.partsBetween z (Builtin.Str.occurrences z y 0 z.length (z.length + 1)) y.length).length) ((numbered_texts _ _).trans ((if_neg h1).trans (if_neg hf)).symm) (by
        have := congrArg List.length (numbered_texts s.toks (Builtin.Str.partsBetween z (Builtin.Str.occurrences z y 0 z.length (z.length + 1)) y.length))
        rw [List.length_map] at this
        rw [this]; exact hn)
      rw [← e] at g
      exact g
theorem pd_split {o e : Expr} {apos cpos : Pos} {fa fb : EF} (ho : PD X o fa) (he : PD X e fb)
    (hbase : attributeBase o "split" X.env (eval o X.env) = eval o X.env := by rfl)
    (hfew : ((backTo cpos (starEach [e] X.env)).all (fun x => !x.1) && (backToKw cpos (keywordEach [] X.env)).all (fun x => x.1.isSome)
      && decide ([e].length + ([] : List Keyword).length + (if ([] : List Keyword).isEmpty then 0 else 1) < 30)) = true := by rfl)
    (hline : (apos.endLine == cpos.line) = true := by rfl) (hst : starEach [e] X.env = (false, eval e X.env) :: starEach [] X.env := by rfl) :
    PD X (.Call (.Attribute o "split" apos) [e] [] cpos) (fSplit fa fb) :=
  PE.imp (pe_bm PySem.F.plainAttrs_str PySem.F.slot_str_split PySem.F.type_str_split mt_split ho.fz (pad_cons he pad_nil hst) hbase hfew hline hst) fun σ H Q h => by
    obtain ⟨B, G0, G, δ, r0, S, e, k⟩ := h
    obtain ⟨a, ea, e⟩ := Option.bind_eq_some_iff.mp e
    obtain ⟨ra, era, rfl⟩ := dt_some ea
    obtain ⟨b, eb, e⟩ := Option.bind_eq_some_iff.mp e
    obtain ⟨rb, erb, rfl⟩ := dt_some eb
    obtain ⟨p, ep, e⟩ := Option.bind_eq_some_iff.mp e
    obtain ⟨e1, e2⟩ := strs2_some ep
    by_cases hc : (p.2.length == 0) = false ∧ p.1.length + 2 ≤ sizeLine
    · rw [if_pos hc] at e
      cases e
      refine run1 ⟨S, k⟩ era fun x G1 H1 k1 g1 q1 => ?_
      have r1 := RsR.rep k1.sim q1
      rw [Rs.fz_dat, e1] at r1
      unfold Rep at r1
      subst r1
      refine ⟨rfl, B, G0, G1, δ, [rb.fz], k1.sim, by unfold evs evs; rw [erb]; rfl, fun vs G2 H2 S2 g2 q2 => ?_⟩
      have k2 := k1.step S2 g2
      obtain ⟨v, rfl, q⟩ := RsRs.one q2
      have r2 := RsR.rep S2 q
      rw [Rs.fz_dat, e2] at r2
      unfold Rep at r2
      subst r2
      refine ⟨p.1, p.2, rfl, rfl, hc.1, hc.2, fun l hl => k2.newL ?_ hl⟩
      have all : ∀ zs : List Str, Reps X.K G2 (zs.map Dm.str) (zs.map V.str) := fun zs => by
        induction zs with
        | nil => exact Reps.nil
        | cons z zs ih => exact Reps.cons (by unfold Rep; rfl) ih
      exact all _
    · rw [if_neg hc] at e; cases e

/-! ### a text is walked -/
def signs (z : Str) : List Dm := z.cps.toList.map fun c => .str ⟨#[c]⟩
def Its (z : Str) : It := ⟨fun i _ => i < z.cps.size, fun i H x H' => H' = H ∧ ∃ c, z.cps[i]? = some c ∧ x = .str ⟨#[c]⟩, fun i _ => z.cps.size ≤ i⟩
theorem turn_str {P : Program} {w : World} {K : PySem.W.Frag} {tg : Expr} (z : Str) (t : Tok) (it : Addr) (kd : String) (hk : kd = "str_ascii_iterator" ∨ kd = "str_iterator") : Turn P w K tg (Its z) [it] it (fun i h => h.IsStrIter it kd z t i) where
  mem := by simp
  obj := fun i h st b hb => by
    have e : b = it := by simpa using hb
    subst e
    obtain ⟨o, e, c, d⟩ := st
    exact ⟨o, e, fun v z => by rw [d] at z; cases z⟩
  keep := fun i h h' st k => let ⟨o, ho, r⟩ := st; ⟨o, k it (by simp) o ho, r⟩
  item := by
    intro X hP hw hK hc i pins s σ H E I hf st hg
    subst hP hw hK
    obtain ⟨f0, f1, f2, f3, f4, f5⟩ := hf it (by simp)
    have go : ∀ (W : Walks X.prog X.w X.A it [it] [it] z.cps.size (SignAt z) (fun i h => h.IsStrIter it kd z t i)), wpAny (model X.prog X.w) X.A (pyNext (.ref it)) (fun r s1 => ∃ u, r = some u ∧
      wpAny (model X.prog X.w) X.A (letOwnedTupleGo tg (.ref it) u) (fun _ s2 => ∃ x H', Inv X pins σ H' s2 ∧ RelV x u ∧ (Its z).yld i H x H' ∧ s2.heap.IsStrIter it kd z t (i + 1) ∧ ∀ b ∈ [it], H' b = none) E s1) E s := fun W => by
      refine W.item i s _ _ hg st fun v h' tk hv st' kk => ?_
      obtain ⟨c, u, hcz, rfl⟩ := hv
      have I1 : Inv X pins σ H { s with heap := h', toks := tk } := I.turned (fun b o hb e => kk b o (by simpa using hb) e) f0 f1 f3 f4 f5
      obtain ⟨o, e, ec, ed⟩ := id st'
      exact ⟨_, rfl, go_of (s := { s with heap := h', toks := tk }) e ec ed (by rcases hk with rfl | rfl <;> decide) ⟨.str ⟨#[c]⟩, H, I1, ⟨u, rfl⟩, ⟨rfl, c, hcz, rfl⟩, st', fun b hb => (hf b hb).1⟩⟩
    rcases hk with rfl | rfl
    · exact go (Walks.strAscii (I.ok.hd hc) it z t)
    · exact go (Walks.strWide (I.ok.hd hc) it z t)
  done := by
    intro X hP hw hK hc i pins s σ H E I hf st hg
    subst hP hw hK
    obtain ⟨f0, f1, f2, f3, f4, f5⟩ := hf it (by simp)
    have hnone : z.cps[i]? = none := by
      have hg' : z.cps.size ≤ i := hg
      simp [hg']
    rcases hk with rfl | rfl
    · exact wpAny_pyNext_ascii_end (I.ok.hd hc) st hnone fun h' eb => ⟨rfl, I.turned (t' := s.toks) (fun b o hb e => eb b o hb e) f0 f1 f3 f4 f5⟩
    · exact wpAny_pyNext_wide_end (I.ok.hd hc) st hnone fun h' eb => ⟨rfl, I.turned (t' := s.toks) (fun b o hb e => eb b o hb e) f0 f1 f3 f4 f5⟩
  self := fun _ _ _ _ _ st h => by
    rcases hk with rfl | rfl
    · exact wpAny_pyIter_striter_ascii st h
    · exact wpAny_pyIter_striter_wide st h
def iStr0 (te : TE) : TI := fun σ H R => te σ H fun x H1 => ∃ z, x = .str z ∧ R (Its z) H1
theorem pi_str0 {tg l : Expr} {tl : TE} (hl : PE X l tl) : PI X tg l (iStr0 tl) := by
  intro pins s σ H R I h
  refine thn (hl pins s σ H _ I h) fun v s1 ⟨x, H1, I1, r1, q1⟩ => ?_
  obtain ⟨z, rfl, q⟩ := q1
  obtain ⟨t, rfl⟩ := r1
  have fin : ∀ (o : Obj) (kd : String), (kd = "str_ascii_iterator" ∨ kd = "str_iterator") → (s1.heap.push o).IsStrIter s1.heap.objs.size kd z t 0 → PIE X pins σ tg R (.ref s1.heap.objs.size) { s1 with heap := s1.heap.push o } := fun o kd hk st =>
    ⟨_, [s1.heap.objs.size], _, _, H1, rfl, I1.kept (t' := s1.toks) fun b ob e => Heap.get?_push_of_some _ e, turn_str z t _ kd hk, st, fun b hb => by
      have eb : b = s1.heap.objs.size := by simpa using hb
      subst eb
      exact I1.fpOk (Nat.le_refl _) (I1.hok.fresh (Nat.le_refl _)), q⟩
  cases ha : z.cps.all (· < 128)
  · exact wpAny_pyIter_wide ha (fin _ _ (.inr rfl) ⟨_, Heap.get?_push_size _ rfl, rfl, rfl⟩)
  · exact wpAny_pyIter_ascii ha (fin _ _ (.inl rfl) ⟨_, Heap.get?_push_size _ rfl, rfl, rfl⟩)
theorem jd_str {K : PySem.W.Frag} {G : Hp} {z : Str} : JD K (Its z) (signs z) G := by
  intro i H G1 g1 g2
  have hl : (signs z).length = z.cps.size := by unfold signs; simp
  refine ⟨fun d hd => ?_, fun hi => by rw [hl] at hi; exact hi⟩
  have hin : i < z.cps.size := by rw [← hl]; exact (List.getElem?_eq_some_iff.mp hd).1
  refine ⟨hin, fun x H' y => ?_⟩
  obtain ⟨rfl, c, hc, rfl⟩ := y
  refine ⟨G1, Gr.refl, g2, ?_⟩
  unfold signs at hd
  rw [List.getElem?_map, Array.getElem?_toList, hc] at hd
  cases hd
  unfold Rep; rfl
/-- what is walked: a list, a tuple or a text -/
def walk? : Rs → Option (List Dm)
  | .sh (.lst ds) => some ds
  | .sh (.tup ds) => some ds
  | .sh (.str z) => some (signs z)
  | _ => none
def iS (f : EF) : IF := fun δ => (fz f δ).bind walk?
theorem pi_s {tg e : Expr} {f : EF} (h : PD X e f) : PID X tg e (iS f) := PI.imp (PI.or (pi_l h) (PI.or (pi_t h) (pi_str0 h.fz))) fun σ H R q => by
  obtain ⟨B, G0, G, δ, ds, S, e, k⟩ := q
  obtain ⟨r, er, e⟩ := Option.bind_eq_some_iff.mp e
  unfold walk? at e
  split at e
  · cases e
    exact .inl ⟨B, G0, G, δ, _, S, by unfold iL; rw [er]; rfl, k⟩
  · cases e
    exact .inr (.inl ⟨B, G0, G, δ, _, S, by unfold iT; rw [er]; rfl, k⟩)
  · cases e
    refine .inr (.inr ⟨B, G0, G, δ, _, S, er, fun v G1 H1 S1 g1 q1 => ?_⟩)
    have q1' : Rep X.K G1 (.str _) v := q1
    unfold Rep at q1'
    exact ⟨_, q1', k _ G1 H1 S1 g1 jd_str⟩
  · cases e

/-! ### while -/
def whileN (c : BF') (b : SF) : Nat → List Sl → Option Fl
  | 0, _ => none
  | n + 1, δ => (c δ).bind fun k => if k = true then (b δ).bind fun fl => match fl with
      | .nx δ' => whileN c b n δ'
      | .ct δ' => whileN c b n δ'
      | .bk δ' => some (.nx δ')
      | .rt r => some (.rt r)
    else some (.nx δ)
open Classical in
def gWhile (c : BF') (b : SF) : SF := fun δ => if h : ∃ n fl, whileN c b n δ = some fl then some (Classical.choose (Classical.choose_spec h)) else none
theorem whileN_mono {c : BF'} {b : SF} : ∀ {n m : Nat} {δ : List Sl} {fl : Fl}, whileN c b n δ = some fl → n ≤ m → whileN c b m δ = some fl
  | 0, _, _, _, e, _ => by cases e
  | n + 1, 0, _, _, _, h => by omega
  | n + 1, m + 1, δ, fl, e, h => by
    unfold whileN at e ⊢
    obtain ⟨k, ek, e⟩ := Option.bind_eq_some_iff.mp e
    rw [ek, Option.bind_some]
    by_cases hk : k = true
    · rw [if_pos hk] at e ⊢
      obtain ⟨f1, ef, e⟩ := Option.bind_eq_some_iff.mp e
      rw [ef, Option.bind_some]
      cases f1 with
      | nx δ' => exact whileN_mono (n := n) (m := m) e (by omega)
      | ct δ' => exact whileN_mono (n := n) (m := m) e (by omega)
      | bk δ' => exact e
      | rt r => exact e
    · rw [if_neg hk] at e ⊢; exact e
theorem gWhile_of {c : BF'} {b : SF} {n : Nat} {δ : List Sl} {fl : Fl} (h : whileN c b n δ = some fl) : gWhile c b δ = some fl := by
  have hx : ∃ n fl, whileN c b n δ = some fl := ⟨n, fl, h⟩
  unfold gWhile
  rw [dif_pos hx]
  have e := Classical.choose_spec (Classical.choose_spec hx)
  have e1 := whileN_mono e (Nat.le_max_left _ n)
  have e2 := whileN_mono h (Nat.le_max_right (Classical.choose hx) n)
  rw [e1] at e2
  exact e2
theorem gWhile_some {c : BF'} {b : SF} {δ : List Sl} {fl : Fl} (h : gWhile c b δ = some fl) : ∃ n, whileN c b n δ = some fl := by
  unfold gWhile at h
  by_cases hx : ∃ n fl, whileN c b n δ = some fl
  · rw [dif_pos hx] at h
    have e := Classical.choose_spec (Classical.choose_spec hx)
    have e' := Option.some.inj h
    rw [e'] at e
    exact ⟨_, e⟩
  · rw [dif_neg hx] at h; cases h
theorem psd_while {c : Expr} {body : List Stmt} {pos : Pos} {fc : BF'} {b : SF} (hp : PassesOwn (model X.prog X.w) X.A X.env X.xe) (hc : PTD X c fc) (hb : PSsD X body b) : PSD X (.While c body [] pos) (gWhile fc b) := PS.imp (ps_while hp hc hb) fun D σ H h => by
  obtain ⟨B, G0, G, δ, fl, S, e, k⟩ := h
  obtain ⟨n, e⟩ := gWhile_some e
  refine ⟨fun m σ H => ∃ G2 δ, Sim X.K B G0 G2 δ σ H ∧ Same G G2 ∧ whileN fc b m δ = some fl, ⟨n, G, δ, S, Same.refl G, e⟩, ?_⟩
  rintro m σ2 H2 ⟨G2, δ2, S2, g2, e2⟩
  cases m with
  | zero => cases e2
  | succ m =>
    unfold whileN at e2
    obtain ⟨t, et, e2⟩ := Option.bind_eq_some_iff.mp e2
    refine ⟨B, G0, G2, δ2, t, S2, et, fun G3 H3 S3 g3 => ?_⟩
    have g13 : Same G G3 := g2.trans g3.gg
    cases t with
    | false =>
      rw [if_neg Bool.false_ne_true] at e2
      cases e2
      show (if false = true then _ else D.nx σ2 H3)
      rw [if_neg Bool.false_ne_true]
      exact k G3 σ2 H3 S3 g13
    | true =>
      rw [if_pos rfl] at e2
      show (if true = true then _ else _)
      rw [if_pos rfl]
      obtain ⟨f4, e4, e2⟩ := Option.bind_eq_some_iff.mp e2
      refine ⟨fun σ' H' => ∃ G5 δ5, Sim X.K B G0 G5 δ5 σ' H' ∧ Same G G5 ∧ whileN fc b m δ5 = some fl, fun σ' H' h => ⟨m, Nat.lt_succ_self m, h⟩, B, G0, G3, δ2, f4, S3, e4, ?_⟩
      cases f4 with
      | nx δ' => exact fun G' σ' H' S' g' => ⟨G', δ', S', g13.trans g', e2⟩
      | ct δ' => exact fun G' σ' H' S' g' => ⟨G', δ', S', g13.trans g', e2⟩
      | bk δ' => cases e2; exact fun G' σ' H' S' g' => k G' σ' H' S' (g13.trans g')
      | rt r => cases e2; exact fun δ' G' σ' H' v S' g' q => k δ' G' σ' H' v S' (g13.trans g') q
/-- a global constant that is a scalar -/
theorem pd_glob {x : Str} {u : Value} {d : Dm} {pos : Pos} (hg : Gl X x) (hm : X.mg x = some u) (hs : d.scal = true) (r : RelV (vOf d) u) (hd : (x == ("__debug__" : Str)) = false := by decide +kernel) : PD X (.Name x pos) (fC d) := PE.imp (pe_glob hg hm r hd) fun σ H Q h => by
  obtain ⟨B, G0, G, δ, r, S, e, k⟩ := h
  cases e
  exact k _ G H S Gr.refl (rep_scal hs)
end
end BF
set_option Elab.async false
set_option linter.all false
set_option maxRecDepth 100000
set_option maxHeartbeats 4000000
namespace BF
open PySem PySem.Spec PyProof.Rows L2
noncomputable section
variable {X : Cx}
/-! ### zip of two lists -/
def Itz (K : PySem.W.Frag) (a b : Addr) : It :=
  ⟨fun i H => ∃ xs ys x y, SqL K H a xs ∧ SqL K H b ys ∧ xs[i]? = some x ∧ ys[i]? = some y,
   fun i H z H' => ∃ t, H t = none ∧ z = .ref t ∧ ∃ x y, H' = upd H t (.tup [x, y]) ∧ (∀ xs, SqL K H a xs → xs[i]? = some x) ∧ ∀ ys, SqL K H b ys → ys[i]? = some y,
   fun i H => ∃ xs ys, SqL K H a xs ∧ SqL K H b ys ∧ (xs.length ≤ i ∨ ys.length ≤ i)⟩
theorem turn_zip {P : Program} {w : World} {K : PySem.W.Frag} {elts : List Expr} {x1 : Nat} {tp : Pos} (a b z TI TO i1 i2 : Addr) (D : ZipApart z TI TO i1 i2 a b) :
    Turn P w K (.Tuple elts x1 tp) (Itz K a b) [z, TI, TO, i1, i2] z (fun i h => IsZip h z TI TO .none ∧ IsPair h TI (.ref i1) (.ref i2) ∧ (∃ u v, IsPair h TO u v) ∧ h.IsListIter i1 a i ∧ h.IsListIter i2 b i) where
  mem := by simp
  obj := fun i h st c hc => by
    obtain ⟨hz, hTI, ⟨u, v, hTO⟩, ⟨o1, e1, _, d1⟩, ⟨o2, e2, _, d2⟩⟩ := st
    simp only [List.mem_cons, List.not_mem_nil, or_false] at hc
    rcases hc with rfl | rfl | rfl | rfl | rfl
    · exact ⟨_, hz, fun v q => by
        have q' : Data.fields _ = Data.cell v := q
        cases q'⟩
    · exact ⟨_, hTI, fun v q => by
        have q' : Data.seq _ _ = Data.cell v := q
        cases q'⟩
    · exact ⟨_, hTO, fun v q => by
        have q' : Data.seq _ _ = Data.cell v := q
        cases q'⟩
    · exact ⟨o1, e1, fun v q => by rw [d1] at q; cases q⟩
    · exact ⟨o2, e2, fun v q => by rw [d2] at q; cases q⟩
  keep := fun i h h' st k => by
    obtain ⟨hz, hTI, ⟨u, v, hTO⟩, h1, h2⟩ := st
    exact ⟨k z (by simp) _ hz, k TI (by simp) _ hTI, ⟨u, v, k TO (by simp) _ hTO⟩, h1.at fun o q => k i1 (by simp) o q, h2.at fun o q => k i2 (by simp) o q⟩
  item := by
    intro X hP hw hK hc i pins s σ H E I hf st hg
    subst hP hw hK
    obtain ⟨hz, hTI, ⟨u, v, hTO⟩, h1, h2⟩ := st
    obtain ⟨xs, ys, x, y, hq1, hq2, hx, hy⟩ := hg
    obtain ⟨its1, rv1, p1, hs1⟩ := I.list hq1
    obtain ⟨its2, rv2, p2, hs2⟩ := I.list hq2
    obtain ⟨ux, hux, rx⟩ := rv1.get hx
    obtain ⟨uy, huy, ry⟩ := rv2.get hy
    have zlt : z < s.heap.objs.size := Heap.lt_size hz
    refine wpAny_pyNext_zip_item D hz hTI hTO h1 h2 p1.isList p2.isList (x := ux) (y := uy) (by simpa using hux) (by simpa using huy) fun h' z1 t1 l1 l2 pn sz kp => ?_
    refine ⟨_, rfl, wpAny_letOwnedTupleGo_zip z1 fun h'' z2 sb => ?_⟩
    have TIk : IsPair h' TI (.ref i1) (.ref i2) := kp TI _ D.TIz D.TITO D.TIi1 D.TIi2 hTI
    have up : ∀ c, c ≠ z → h''.get? c = h'.get? c := fun c hc => sb.2 c hc
    refine ⟨.ref s.heap.objs.size, upd H s.heap.objs.size (.tup [x, y]), turnNew (s := s) (t' := s.toks) (h' := h'') (ch := [z, TI, TO, i1, i2]) I hf (fun c ob hc q => ?_) (Nat.le_refl _) ?_, rfl, ⟨_, I.hok.fresh (Nat.le_refl _), rfl, x, y, rfl, fun zs hz' => by rw [I.list_inj hz' hq1]; exact hx, fun zs hz' => by rw [I.list_inj hz' hq2]; exact hy⟩, ⟨z2, (up TI D.TIz).trans TIk, ⟨_, _, (up TO D.TOz).trans t1⟩, l1.at fun o q => (up i1 D.i1z).trans q, l2.at fun o q => (up i2 D.i2z).trans q⟩, fun c hc => ?_⟩
    · simp only [List.mem_cons, List.not_mem_nil, or_false, not_or] at hc
      exact (up c hc.1).trans (kp c ob hc.1 hc.2.2.1 hc.2.2.2.1 hc.2.2.2.2 q)
    · exact ⟨by show 2 ≤ sizeLine; rw [sizeLine_eq]; decide, [ux, uy], .cons rx (.cons ry .nil), ⟨_, (up _ (Nat.ne_of_gt zlt)).trans pn, rfl, _, rfl⟩⟩
    · have lt : c < s.heap.objs.size := by
        obtain ⟨o1, e1, _⟩ := h1
        obtain ⟨o2, e2, _⟩ := h2
        simp only [List.mem_cons, List.not_mem_nil, or_false] at hc
        rcases hc with rfl | rfl | rfl | rfl | rfl
        · exact zlt
        · exact Heap.lt_size hTI
        · exact Heap.lt_size hTO
        · exact Heap.lt_size e1
        · exact Heap.lt_size e2
      rw [upd_ne (Nat.ne_of_lt lt)]
      exact (hf c hc).1
  done := by
    intro X hP hw hK hc i pins s σ H E I hf st hg
    subst hP hw hK
    obtain ⟨hz, hTI, ⟨u, v, hTO⟩, h1, h2⟩ := st
    obtain ⟨xs, ys, hq1, hq2, hend⟩ := hg
    obtain ⟨its1, rv1, p1, hs1⟩ := I.list hq1
    obtain ⟨its2, rv2, p2, hs2⟩ := I.list hq2
    have e1 := rv1.length
    have e2 := rv2.length
    refine wpAny_pyNext_zip_end (I.ok.hd hc) D hz hTI hTO h1 h2 p1.isList p2.isList (by
      rcases hend with q | q
      · exact .inl (by simp; omega)
      · exact .inr (by simp; omega)) fun h' kp => ⟨rfl, ?_⟩
    refine I.step (g' := s.gens) (d' := s.drawn) (t' := s.toks) (ch := [z, TO, i1, i2]) (fun c hc' => ?_) (fun c o _ _ hc' e _ => ?_) (fun c o _ _ hc' e _ => ⟨o.slots, ?_⟩) (fun _ _ _ _ n => n) (fun c o hc' e => ⟨o, ?_⟩) (fun _ _ e => e) (fun _ _ _ e => e) (fun c ps e => ⟨#[], by rw [e]; simp⟩) (fun m hm => ?_) (fun c o e => ?_) I.bare
    · have hm : c ∈ [z, TI, TO, i1, i2] := by
        simp only [List.mem_cons, List.not_mem_nil, or_false] at hc' ⊢
        rcases hc' with q | q | q | q
        · exact .inl q
        · exact .inr (.inr (.inl q))
        · exact .inr (.inr (.inr (.inl q)))
        · exact .inr (.inr (.inr (.inr q)))
      obtain ⟨f0, f1, f2, f3, f4, f5⟩ := hf c hm
      exact ⟨f3, f1, f4, f5⟩
    · simp only [List.mem_cons, List.not_mem_nil, or_false, not_or] at hc'
      exact kp c o hc'.1 hc'.2.1 hc'.2.2.1 hc'.2.2.2 e
    · simp only [List.mem_cons, List.not_mem_nil, or_false, not_or] at hc'
      exact kp c o hc'.1 hc'.2.1 hc'.2.2.1 hc'.2.2.2 e
    · simp only [List.mem_cons, List.not_mem_nil, or_false, not_or] at hc'
      exact kp c o hc'.1 hc'.2.1 hc'.2.2.1 hc'.2.2.2 e
    · obtain ⟨o, es, ep, ho, r⟩ := hm
      have n1 : X.env.locals ≠ z := fun q => (hf z (by simp)).2.1 q.symm
      have n2 : X.env.locals ≠ TO := fun q => (hf TO (by simp)).2.1 q.symm
      have n3 : X.env.locals ≠ i1 := fun q => (hf i1 (by simp)).2.1 q.symm
      have n4 : X.env.locals ≠ i2 := fun q => (hf i2 (by simp)).2.1 q.symm
      exact ⟨o, es, ep, kp _ o n1 n2 n3 n4 ho, r⟩
    · have nf : ∀ d u, H d = some u → d ≠ z ∧ d ≠ TO ∧ d ≠ i1 ∧ d ≠ i2 := fun d u q => by
        refine ⟨?_, ?_, ?_, ?_⟩ <;> rintro rfl
        · rw [(hf _ (by simp)).1] at q; cases q
        · rw [(hf _ (by simp)).1] at q; cases q
        · rw [(hf _ (by simp)).1] at q; cases q
        · rw [(hf _ (by simp)).1] at q; cases q
      refine (I.hok c o e).stay (fun d v hd q => ?_) (fun _ q => q) fun _ _ q => q
      rcases hd with rfl | hd
      · obtain ⟨a1, a2, a3, a4⟩ := nf _ _ e; exact kp _ v a1 a2 a3 a4 q
      · obtain ⟨a1, a2, a3, a4⟩ := nf _ _ hd; exact kp _ v a1 a2 a3 a4 q
  self := fun _ _ _ _ _ st h => wpAny_pyIter_zip st.1 h
def iZip0 (K : PySem.W.Frag) (ta : TA) : TI := fun σ H R => ta σ H fun vs H1 => ∃ a b, vs = [.ref a, .ref b] ∧ (∃ xs, SqL K H1 a xs) ∧ (∃ ys, SqL K H1 b ys) ∧ R (Itz K a b) H1
theorem pi_zip0 {a b : Expr} {ta : TA} {p pos : Pos} {elts : List Expr} {x1 : Nat} {tp : Pos} (hg : Gl X "zip") (hm : X.mg "zip" = none) (hb : bootBuiltins "zip" = some (.type "zip")) (ha : PA X [a, b] ta) (hs : starEach [a, b] X.env = [(false, eval a X.env), (false, eval b X.env)] := by rfl) (hs2 : starEach [b] X.env = [(false, eval b X.env)] := by rfl) :
    PI X (.Tuple elts x1 tp) (.Call (.Name "zip" p) [a, b] [] pos) (iZip0 X.K ta) := by
  intro pins s σ H R I h
  refine PyProof.Rows.Call_ (ld_blt I hg hm hb (PyProof.Rows.callWith_type1 (thn (ha pos pins s σ H _ I h) fun us s1 ⟨vs, H1, I1, r1, q1⟩ => ?_) (by rw [hs, hs2]) (by rw [hs2]; rfl)))
  obtain ⟨l1, l2, e, ⟨xs, hq1⟩, ⟨ys, hq2⟩, q⟩ := q1
  subst e
  obtain ⟨u, w', rfl, ru, rw'⟩ := vals2 r1
  cases ru
  cases rw'
  obtain ⟨its1, rv1, p1, hz1⟩ := I1.list hq1
  obtain ⟨its2, rv2, p2, hz2⟩ := I1.list hq2
  have lt1 : l1 < s1.heap.objs.size := by obtain ⟨o, e, _⟩ := p1.isList; exact Heap.lt_size e
  have lt2 : l2 < s1.heap.objs.size := by obtain ⟨o, e, _⟩ := p2.isList; exact Heap.lt_size e
  refine call_zip_2 p1.isList p2.isList fun h' hz hTI hTO hi1 hi2 hsz hk => ?_
  refine wpAny_pyIter_zip hz ?_
  have I2 : Inv X pins σ H1 { s1 with heap := h' } := I1.kept (t' := s1.toks) hk
  refine ⟨s1.heap.objs.size + 4, [s1.heap.objs.size + 4, s1.heap.objs.size + 2, s1.heap.objs.size + 3, s1.heap.objs.size, s1.heap.objs.size + 1], _, _, H1, rfl, I2, turn_zip l1 l2 _ _ _ _ _ (PySem.W.ktu_apart _ _ _ lt1 lt2), ⟨hz, hTI, ⟨_, _, hTO⟩, hi1, hi2⟩, fun b hb => ?_, q⟩
  have fr : ∀ c, s1.heap.objs.size ≤ c → FpOk X pins H1 c := fun c hc => I1.fpOk hc (I1.hok.fresh hc)
  simp only [List.mem_cons, List.not_mem_nil, or_false] at hb
  rcases hb with rfl | rfl | rfl | rfl | rfl
  · exact fr _ (Nat.le_add_right _ _)
  · exact fr _ (Nat.le_add_right _ _)
  · exact fr _ (Nat.le_add_right _ _)
  · exact fr _ (Nat.le_refl _)
  · exact fr _ (Nat.le_add_right _ _)
def zipD : List Dm → List Dm → List Dm
  | x :: xs, y :: ys => .tup [x, y] :: zipD xs ys
  | _, _ => []
theorem zipD_get : ∀ {xs ys : List Dm} {i : Nat} {d : Dm}, (zipD xs ys)[i]? = some d → ∃ x y, xs[i]? = some x ∧ ys[i]? = some y ∧ d = .tup [x, y]
  | [], ys, i, d, h => by simp [zipD] at h
  | _ :: _, [], i, d, h => by simp [zipD] at h
  | x :: xs, y :: ys, 0, d, h => by simp [zipD] at h; exact ⟨x, y, rfl, rfl, h.symm⟩
  | x :: xs, y :: ys, i + 1, d, h => by
    obtain ⟨a, b, h1, h2, h3⟩ := zipD_get (xs := xs) (ys := ys) (i := i) (d := d) (by simpa [zipD] using h)
    exact ⟨a, b, by simpa using h1, by simpa using h2, h3⟩
theorem zipD_len : ∀ {xs ys : List Dm} {i : Nat}, (zipD xs ys).length ≤ i → xs.length ≤ i ∨ ys.length ≤ i
  | [], ys, i, h => .inl (by simp)
  | _ :: _, [], i, h => .inr (by simp)
  | x :: xs, y :: ys, 0, h => by simp [zipD] at h
  | x :: xs, y :: ys, i + 1, h => by
    rcases zipD_len (xs := xs) (ys := ys) (i := i) (by simpa [zipD] using h) with q | q
    · exact .inl (by simpa using q)
    · exact .inr (by simpa using q)
theorem jd_zip {K : PySem.W.Frag} {G : Hp} {a b : Addr} {xs ys : List V} {ds es : List Dm} (hq1 : SqL K G a xs) (rr1 : Reps K G ds xs) (hq2 : SqL K G b ys) (rr2 : Reps K G es ys) : JD K (Itz K a b) (zipD ds es) G := by
  intro i H G1 g1 g2
  have h1 := g2.seq (g1.seq hq1)
  have h2 := g2.seq (g1.seq hq2)
  refine ⟨fun d hd => ?_, fun hi => ⟨xs, ys, h1, h2, by rw [← rr1.length, ← rr2.length]; exact zipD_len hi⟩⟩
  obtain ⟨dx, dy, e1, e2, rfl⟩ := zipD_get hd
  obtain ⟨v, hv, rv⟩ := rr1.get e1
  obtain ⟨u, hu, ru⟩ := rr2.get e2
  refine ⟨⟨xs, ys, v, u, h1, h2, hv, hu⟩, fun x H' y => ?_⟩
  obtain ⟨t, ht, rfl, x', y', rfl, hx, hy⟩ := y
  have ex := hx xs h1
  have ey := hy ys h2
  rw [hv] at ex
  rw [hu] at ey
  cases ex
  cases ey
  have g1t : G1 t = none := g2.free ht
  refine ⟨upd G1 t (.tup [v, u]), ⟨Same.upd_new g1t, Same.upd_new ht, fun b hb => upd_ne (by rintro rfl; exact hb ht)⟩, fun b u e => ?_, ?_⟩
  · by_cases z : b = t
    · subst z; rw [upd_same] at e ⊢; exact e
    · rw [upd_ne z] at e ⊢; exact g2 b u e
  · unfold Rep
    exact ⟨t, _, rfl, SqT.of upd_same, Reps.cons (rv.mono (g1.trans (Same.upd_new g1t))) (Reps.cons (ru.mono (g1.trans (Same.upd_new g1t))) Reps.nil)⟩
def iZ (f g : EF) : IF := fun δ => (fz f δ).bind fun r => (shl? r).bind fun ds => (fz g δ).bind fun q => (shl? q).map fun es => zipD ds es
theorem pi_z {a b : Expr} {f g : EF} {p pos : Pos} {elts : List Expr} {x1 : Nat} {tp : Pos} (h : PD X a f) (h' : PD X b g) (hg : Gl X "zip") (hm : X.mg "zip" = none) (hb : bootBuiltins "zip" = some (.type "zip")) (hs : starEach [a, b] X.env = [(false, eval a X.env), (false, eval b X.env)] := by rfl) (hs2 : starEach [b] X.env = [(false, eval b X.env)] := by rfl) (hs1 : starEach [a, b] X.env = (false, eval a X.env) :: starEach [b] X.env := by rfl) :
    PID X (.Tuple elts x1 tp) (.Call (.Name "zip" p) [a, b] [] pos) (iZ f g) := PI.imp (pi_zip0 hg hm hb (pad_cons h (pad_cons h' pad_nil hs2) hs1) hs hs2) fun σ H R q => by
  obtain ⟨B, G0, G, δ, ds, S, e, k⟩ := q
  obtain ⟨r, er, e⟩ := Option.bind_eq_some_iff.mp e
  obtain ⟨xs, exs, e⟩ := Option.bind_eq_some_iff.mp e
  obtain ⟨r', er', e⟩ := Option.bind_eq_some_iff.mp e
  obtain ⟨ys, eys, e⟩ := Option.map_eq_some_iff.mp e
  subst e
  rw [shl_some exs] at er
  rw [shl_some eys] at er'
  unfold fz at er er'
  obtain ⟨r0, er0, er⟩ := Option.map_eq_some_iff.mp er
  obtain ⟨r1, er1, er'⟩ := Option.map_eq_some_iff.mp er'
  refine ⟨B, G0, G, δ, [r0.fz, r1.fz], S, by unfold evs evs evs; rw [er0, er1]; rfl, fun vs G1 H1 S1 g1 q1 => ?_⟩
  obtain ⟨v, t, rfl, _, qa, q1⟩ := q1
  obtain ⟨u, rfl, qb⟩ := RsRs.one q1
  rw [er] at qa
  rw [er'] at qb
  have qa' : Rep X.K G1 (.lst xs) v := qa
  have qb' : Rep X.K G1 (.lst ys) u := qb
  unfold Rep at qa' qb'
  obtain ⟨a, vs, rfl, hq, rr⟩ := qa'
  obtain ⟨b, us, rfl, hq', rr'⟩ := qb'
  exact ⟨a, b, rfl, ⟨vs, S1.gh.seq hq⟩, ⟨us, S1.gh.seq hq'⟩, k _ G1 H1 S1 g1 (jd_zip hq rr hq' rr')⟩
theorem bo_zip : bootBuiltins "zip" = some (.type "zip") := by decide +kernel
theorem bo_all : bootBuiltins "all" = some (.builtin "all") := by decide +kernel
theorem bo_any : bootBuiltins "any" = some (.builtin "any") := by decide +kernel
end
end BF
set_option Elab.async false
set_option linter.all false
set_option maxRecDepth 100000
set_option maxHeartbeats 4000000
namespace BF
open PySem PySem.Spec PyProof.Rows L2
noncomputable section
variable {X : Cx}
/-! ### {k: v, ..}[e] with written keys -/
/-- an object that no view holds is written -/
theorem Sim.poke {K : PySem.W.Frag} {B G0 G H : Hp} {δ : List Sl} {σ : L2.St} (S : Sim K B G0 G δ σ H) {p : Addr} {o : HO} (hg : G p = none) (hb : B p = none) (ns : NS δ σ p) : Sim K B G0 G δ σ (upd H p o) where
  len := S.len
  bh := fun b u e => by rw [upd_ne (ne_of_none e hb)]; exact S.bh b u e
  g0 := S.g0
  gh := fun b u e => by rw [upd_ne (ne_of_none e hg)]; exact S.gh b u e
  gb := S.gb
  slot := fun i s h => by
    have q := S.slot i s h
    cases s with
    | un => trivial
    | sh d => exact q
    | ow ds =>
      obtain ⟨q, xs, e1, e2, r⟩ := q
      exact ⟨q, xs, e1, by rw [upd_ne (by rintro rfl; exact ns i ds h e1)]; exact e2, r⟩
    | so C d => exact q
    | pt p' k d => exact q
    | xc C => exact q
  disj := S.disj
def lookV {α : Type} : List (Str × α) → Str → Option α → Option α
  | [], _, o => o
  | (k1, v1) :: r, k, o => lookV r k (if k = k1 then some v1 else o)
theorem valV_merge : ∀ (kvs : List (Str × V)) (acc : List (Key × V)) (k : Str), valV (mergeK acc (kvs.map fun p => ((Sum.inr p.1 : Key), p.2))) (Sum.inr k) = lookV kvs k (valV acc (Sum.inr k))
  | [], acc, k => rfl
  | (k1, v1) :: r, acc, k => by
    show valV (mergeK (putK acc (Sum.inr k1) v1) (r.map fun p => ((Sum.inr p.1 : Key), p.2))) (Sum.inr k) = _
    rw [valV_merge r, valV_put]
    show lookV r k _ = lookV r k _
    by_cases e : k = k1
    · subst e; rw [if_pos rfl, if_pos rfl]
    · rw [if_neg (fun z => e (Sum.inr.inj z)), if_neg e]
theorem look_rep {K : PySem.W.Frag} {G : Hp} : ∀ {ks : List Str} {ds : List Dm} {vs : List V} {k : Str} {o : Option Dm} {o' : Option V} {d : Dm}, Reps K G ds vs → (∀ d, o = some d → ∃ v, o' = some v ∧ Rep K G d v) → lookV (ks.zip ds) k o = some d → ∃ v, lookV (ks.zip vs) k o' = some v ∧ Rep K G d v
  | [], ds, vs, k, o, o', d, _, h, e => by
    have e' : o = some d := by simpa [lookV] using e
    obtain ⟨v, h1, h2⟩ := h d e'
    exact ⟨v, by simpa [lookV] using h1, h2⟩
  | k1 :: ks, [], vs, k, o, o', d, r, h, e => by
    unfold Reps at r
    subst r
    have e' : o = some d := by simpa [lookV] using e
    obtain ⟨v, h1, h2⟩ := h d e'
    exact ⟨v, by simpa [lookV] using h1, h2⟩
  | k1 :: ks, d1 :: ds, vs, k, o, o', d, r, h, e => by
    unfold Reps at r
    obtain ⟨v1, t, rfl, r1, r2⟩ := r
    have e' : lookV (ks.zip ds) k (if k = k1 then some d1 else o) = some d := e
    refine look_rep (o' := if k = k1 then some v1 else o') r2 (fun x hx => ?_) e'
    by_cases q : k = k1
    · rw [if_pos q] at hx ⊢
      cases hx
      exact ⟨v1, rfl, r1⟩
    · rw [if_neg q] at hx ⊢
      exact h x hx
def trsD (K : PySem.W.Frag) (ks : List Str) (fs : List EF) : List (TE × TE) := (ks.zip fs).map fun p => (tC (.str p.1), tD K (fz p.2))
theorem pairs_run {K : PySem.W.Frag} {B G0 : Hp} {δ : List Sl} {σ : L2.St} : ∀ {ks : List Str} {fs : List EF} {rs : List Rs} {G H : Hp} {Q : List (V × V) → Hp → Prop}, ks.length = fs.length → Sim K B G0 G δ σ H → evs fs δ = some rs →
    (∀ vs G' H', Sim K B G0 G' δ σ H' → Gr G H G' H' → RsRs K G' H' δ σ rs vs → Q ((ks.zip vs).map fun p => (.str p.1, p.2)) H') → tPairs (trsD K ks fs) σ H Q
  | [], [], rs, G, H, Q, _, S, e, k => by
    cases e
    exact k [] G H S Gr.refl rfl
  | [], _ :: _, _, _, _, _, hl, _, _, _ => by cases hl
  | _ :: _, [], _, _, _, _, hl, _, _, _ => by cases hl
  | k1 :: ks, f :: fs, rs, G, H, Q, hl, S, e, k => by
    obtain ⟨ra, era, e⟩ := Option.bind_eq_some_iff.mp e
    obtain ⟨rs', ers, e⟩ := Option.bind_eq_some_iff.mp e
    cases e
    show (tD K (fz f)) σ H fun y H2 => tPairs (trsD K ks fs) σ H2 fun ps H3 => Q ((.str k1, y) :: ps) H3
    refine ⟨B, G0, G, δ, ra.fz, S, fz_some era, fun x G1 H1 S1 g1 q1 => pairs_run (by simpa using hl) S1 ers fun vs G2 H2 S2 g2 q2 => ?_⟩
    exact k (x :: vs) G2 H2 S2 (g1.trans g2) ⟨x, vs, rfl, ra.fz_still, q1.mono ra.fz_still g2.gg, q2⟩
def PPD (X : Cx) (pos : Pos) (keys : List (Option Expr)) (values : List Expr) (ks : List Str) (fs : List EF) : Prop := PPs X pos keys values (trsD X.K ks fs)
theorem ppd_nil {pos : Pos} : PPD X pos [] [] [] [] := pps_nil
theorem ppd_cons {pos p : Pos} {j} {z : Str} {v : Expr} {ks : List (Option Expr)} {vs : List Expr} {zs : List Str} {f : EF} {fs : List EF} (hv : PD X v f) (hr : PPD X pos ks vs zs fs) : PPD X pos (some (.Constant (.str z) j p) :: ks) (v :: vs) (z :: zs) (f :: fs) := pps_cons pe_str hv.fz hr
def fDix (ks : List Str) (fs : List EF) (fk : EF) : EF := fun δ => (evs fs δ).bind fun rs => (dt fk δ).bind fun kd => match kd with
  | .str k => if rs.all Rs.isSh = true ∧ rs.length = ks.length ∧ rs.length ≤ 15 ∧ ks.length = fs.length then (lookV (ks.zip (rs.map Rs.dat)) k none).map .sh else none
  | _ => none
theorem RsRs.length {K : PySem.W.Frag} {G H : Hp} {δ : List Sl} {σ : L2.St} : ∀ {rs : List Rs} {vs : List V}, RsRs K G H δ σ rs vs → vs.length = rs.length
  | [], vs, h => by rw [show vs = [] from h]; rfl
  | r :: rs, vs, h => by
    obtain ⟨v, t, rfl, _, _, h⟩ := h
    rw [List.length_cons, List.length_cons, RsRs.length h]
theorem pd_dix {keys : List (Option Expr)} {values : List Expr} {i : Expr} {p pos : Pos} {ks : List Str} {fs : List EF} {fk : EF} (hu : X.A.units + 64 < cLine) (h : PPD X p keys values ks fs) (hk : PD X i fk) (hs : NoSl i := by intro _ _; rfl) (hall : keys.all (·.isSome) = true := by rfl) (hl : keys.length = values.length := by rfl) (h0 : keys ≠ [] := by intro z; cases z) (h15 : keys.length ≤ 15 := by decide) :
    PD X (.Subscript (.Dict keys values p) i pos) (fDix ks fs fk) := PE.imp (pe_dget (by omega) (pe_disp h hall hl h0 h15) hk.fz hs) fun σ H Q h => by
  obtain ⟨B, G0, G, δ, r0, S, e, k⟩ := h
  obtain ⟨rs, ers, e⟩ := Option.bind_eq_some_iff.mp e
  obtain ⟨kd, ekd, e⟩ := Option.bind_eq_some_iff.mp e
  cases kd with
  | str key =>
    have e' : (if rs.all Rs.isSh = true ∧ rs.length = ks.length ∧ rs.length ≤ 15 ∧ ks.length = fs.length then (lookV (ks.zip (rs.map Rs.dat)) key none).map Rs.sh else none) = some r0 := e
    by_cases hc : rs.all Rs.isSh = true ∧ rs.length = ks.length ∧ rs.length ≤ 15 ∧ ks.length = fs.length
    · rw [if_pos hc] at e'
      obtain ⟨d, ed, e'⟩ := Option.map_eq_some_iff.mp e'
      subst e'
      obtain ⟨rk, erk, hkd⟩ := dt_some ekd
      intro p hp
      have S0 := S.grow (Same.upd_new (o := HO.dK []) hp)
      refine pairs_run hc.2.2.2 S0 ers fun vs G1 H1 S1 g1 q1 => ?_
      have hp1 : H1 p = some (.dK []) := g1.hh _ _ upd_same
      have gp1 : G1 p = none := by rw [g1.nw p (by rw [upd_same]; simp)]; exact S.g_free hp
      have rp := RsRs.reps S1 q1 hc.1
      have lvs := RsRs.length q1
      refine ⟨hp1, (ks.zip vs).map (fun q => ((Sum.inr q.1 : Key), q.2)), by rw [List.map_map]; rfl, by rw [List.length_map, List.length_zip]; omega, ?_⟩
      have S2 := S1.poke (o := HO.dK (mergeK [] ((ks.zip vs).map fun q => ((Sum.inr q.1 : Key), q.2)))) gp1 (S.b_free hp) (S.ns_of_free hp)
      have g02 : Gr G H G1 (upd H1 p (HO.dK (mergeK [] ((ks.zip vs).map fun q => ((Sum.inr q.1 : Key), q.2))))) := ⟨g1.gg, fun b u eb => by rw [upd_ne (ne_of_none eb hp)]; exact g1.hh _ _ (by rw [upd_ne (ne_of_none eb hp)]; exact eb), fun b hb => g1.nw b (by
        rw [upd_ne (by rintro rfl; exact hb hp)]; exact hb)⟩
      refine ⟨B, G0, G1, δ, rk.fz, S2, fz_some erk, fun y G3 H3 S3 g3 q3 => ?_⟩
      have r3 := RsR.rep S3 q3
      rw [Rs.fz_dat, hkd] at r3
      unfold Rep at r3
      subst r3
      obtain ⟨v, ev, rv⟩ := look_rep (o' := none) rp (fun _ z => by cases z) ed
      refine ⟨p, v, rfl, ?_, k v G3 H3 S3 (g02.trans g3) (rv.mono g3.gg)⟩
      have hd := DGet.k (k := (Sum.inr key : Key)) (g3.hh _ _ upd_same)
      rw [valV_merge, valV_nil, ev] at hd
      exact hd
    · rw [if_neg hc] at e'; cases e'
  | non => cases e
  | bl b => cases e
  | int j => cases e
  | lst ds => cases e
  | tup ds => cases e

/-! ### name.clear() -/
def gClear (i : Nat) : SF := fun δ => (own? i δ).map fun _ => .nx (δ.set i (.ow []))
theorem psd_clear (i : Nat) {x : Str} {p apos cpos pos : Pos} (hv : PE X (.Name x p) (tVar i)) (hbase : attributeBase (.Name x p) "clear" X.env (eval (.Name x p) X.env) = eval (.Name x p) X.env := by rfl) (hline : (apos.endLine == cpos.line) = true := by rfl)
    (hsw : swapsWith (.Call (.Attribute (.Name x p) "clear" apos) [] [] cpos) none pos.line X.env = pure false := by rfl) :
    PSD X (.Expr (.Call (.Attribute (.Name x p) "clear" apos) [] [] cpos) pos) (gClear i) := by
  refine PS.imp (ps_expr (pe_bm0 PySem.F.plainAttrs_list PySem.F.slot_list_clear PySem.F.type_list_clear mt_clear hv hbase hline) hsw) fun D σ H h => ?_
  obtain ⟨B, G0, G, δ, fl, S, e, k⟩ := h
  obtain ⟨ds, eds, e⟩ := Option.map_eq_some_iff.mp e
  subst e
  have ho := own_some eds
  obtain ⟨p, xs, e1, e2, e3, e4, rr⟩ := S.slot i _ ho
  exact ⟨_, e1, .inl ⟨rfl, xs, SqL.of e2⟩, p, xs, rfl, rfl, e2, k G σ _ (S.write ho e1 Reps.nil) (Same.refl G)⟩

/-! ### for k, x in enumerate(name): if test: return False, over a list of its own -/
def gForO (i : Nat) (t : Tg) (c : BF') : SF := fun δ => (own? i δ).bind fun ds => loopD t (gIf c (gRet (fC (.bl false))) BF.gNil) (enumD ds) δ
theorem psd_forO (i : Nat) {a c : Expr} {elts : List Expr} {x1 : Nat} {tp p pos p3 p4 p5 pos2 : Pos} {j} {t : Tg} {fc : BF'} (hp : PassesOwn (model X.prog X.w) X.A X.env X.xe) (hc : X.calm = true) (hg : Gl X "enumerate") (hm : X.mg "enumerate" = none) (hb : bootBuiltins "enumerate" = some (.type "enumerate")) (hv : PD X a (fVar i)) (ht : PGD X (.Tuple elts x1 tp) t) (hf : PTD X c fc)
    (hs : starEach [a] X.env = [(false, eval a X.env)] := by rfl) (hfs : ∀ x, foldedSetIterable (.Call (.Name "enumerate" p) [a] [] pos) X.env x = pure x := by intro _; rfl) :
    PSD X (.For (.Tuple elts x1 tp) (.Call (.Name "enumerate" p) [a] [] pos) [.If c [.Return (some (.Constant (.bool false) j p3)) p4] [] p5] [] pos2) (gForO i t fc) := PS.imp (ps_for hp hc (pi_enum hg hm hb (pad_cons hv pad_nil hs) hs) ht (pss_one (ps_if hf (pss_one (ps_ret pe_bl)) pss_nil)) hfs) fun D σ H h => by
  obtain ⟨B, G0, G, δ, fl, S, e, k⟩ := h
  obtain ⟨ds, eds, e⟩ := Option.bind_eq_some_iff.mp e
  have ho := own_some eds
  obtain ⟨p, xs, e1, e2, e3, e4, rr⟩ := S.slot i _ ho
  refine ⟨B, G0, G, δ, [.al i ds], S, by unfold evs evs fVar; rw [ho]; rfl, fun vs G1 H1 S1 g1 q1 => ?_⟩
  obtain ⟨v, rfl, q⟩ := RsRs.one q1
  obtain ⟨_, q⟩ := q
  rw [e1] at q
  obtain rfl : V.ref p = v := by injection q with q; injection q
  refine ⟨p, rfl, ⟨xs, SqL.of (g1.hh _ _ e2)⟩, ?_⟩
  have hl : (enumD ds).length = ds.length := by unfold enumD; simp
  refine ⟨fun n m σ' H' => m = ds.length - n ∧ n ≤ ds.length ∧ ∃ G2 δ2, Sim X.K B G0 G2 δ2 σ' H' ∧ Same G1 G2 ∧ H' p = some (.lst xs) ∧ loopD t (gIf fc (gRet (fC (.bl false))) BF.gNil) ((enumD ds).drop n) δ2 = some fl, ⟨ds.length, by simp, Nat.zero_le _, G1, δ, S1, Same.refl G1, g1.hh _ _ e2, e⟩, ?_⟩
  rintro n m σ2 H2 ⟨rfl, hn, G2, δ2, S2, g2, h2, e2'⟩
  by_cases hlt : n < ds.length
  · have hdn : ds[n]? = some ds[n] := List.getElem?_eq_getElem hlt
    obtain ⟨y, hy, ry⟩ := (rr.mono (g1.gg.trans g2)).get hdn
    have hlt' : n < (enumD ds).length := by rw [hl]; exact hlt
    have ed : (enumD ds)[n] = .tup [.int (n : Int), ds[n]] := by
      have : (enumD ds)[n]? = some (.tup [.int (n : Int), ds[n]]) := by unfold enumD; simp [hlt]
      exact (List.getElem?_eq_some_iff.mp this).2
    rw [List.drop_eq_getElem_cons hlt', ed] at e2'
    obtain ⟨δ3, e3', e2'⟩ := Option.bind_eq_some_iff.mp (show ((setT t (.tup [.int (n : Int), ds[n]]) δ2).bind fun δ1 => ((gIf fc (gRet (fC (.bl false))) BF.gNil) δ1).bind fun fl => match fl with
      | .nx δ' => loopD t (gIf fc (gRet (fC (.bl false))) BF.gNil) ((enumD ds).drop (n + 1)) δ'
      | .ct δ' => loopD t (gIf fc (gRet (fC (.bl false))) BF.gNil) ((enumD ds).drop (n + 1)) δ'
      | .bk δ' => some (.nx δ')
      | .rt r => some (.rt r)) = some fl from e2')
    obtain ⟨f4, e4', e2'⟩ := Option.bind_eq_some_iff.mp e2'
    obtain ⟨b, eb, e4'⟩ := Option.bind_eq_some_iff.mp e4'
    refine .inr ⟨⟨xs, y, SqL.of h2, hy⟩, fun σ' H' => ∃ G5 δ5, Sim X.K B G0 G5 δ5 σ' H' ∧ Same G1 G5 ∧ H' p = some (.lst xs) ∧ loopD t (gIf fc (gRet (fC (.bl false))) BF.gNil) ((enumD ds).drop (n + 1)) δ5 = some fl, fun σ' H' h => ⟨ds.length - (n + 1), by omega, rfl, hlt, h⟩, fun x H3 yl => ?_⟩
    obtain ⟨tt, hfree, rfl, y', rfl, hy'⟩ := yl
    have ey := hy' xs (SqL.of h2)
    rw [hy] at ey
    cases ey
    have S3 := S2.newSh (o := .tup [.int n, y]) hfree
    have g3 : Gr G2 H2 (upd G2 tt (.tup [.int n, y])) (upd H2 tt (.tup [.int n, y])) := ⟨Same.upd_new (S2.g_free hfree), Same.upd_new hfree, fun b hb => upd_ne (by rintro rfl; exact hb hfree)⟩
    refine ⟨B, G0, _, δ2, .tup [.int (n : Int), ds[n]], δ3, S3, ?_, e3', fun σ4 S4 _ => ?_⟩
    · unfold Rep
      exact ⟨tt, _, rfl, SqT.of upd_same, Reps.cons (by unfold Rep; rfl) (Reps.cons (ry.mono g3.gg) Reps.nil)⟩
    · refine ⟨B, G0, _, δ3, b, S4, eb, fun G5 H5 S5 g5 => ?_⟩
      have g15 : Same G1 G5 := g2.trans (g3.gg.trans g5.gg)
      cases b with
      | true =>
        rw [if_pos rfl] at e4'
        cases e4'
        cases e2'
        show (if true = true then _ else _)
        rw [if_pos rfl]
        exact k δ3 G5 σ4 H5 _ S5 (g1.gg.trans g15) (show Rep X.K G5 (.bl false) (.bl false) from rep_scal (d := .bl false) rfl)
      | false =>
        rw [if_neg Bool.false_ne_true] at e4'
        cases e4'
        show (if false = true then _ else _)
        rw [if_neg Bool.false_ne_true]
        exact ⟨G5, δ3, S5, g15, g5.hh _ _ (g3.hh _ _ h2), e2'⟩
  · have hn' : n = ds.length := Nat.le_antisymm hn (Nat.not_lt.mp hlt)
    subst hn'
    rw [← hl, List.drop_length] at e2'
    cases e2'
    exact .inl ⟨⟨xs, SqL.of h2, by rw [← rr.length]; exact Nat.le_refl _⟩, k G2 σ2 H2 S2 (g1.gg.trans g2)⟩
end
end BF
set_option Elab.async false
set_option linter.all false
set_option maxRecDepth 100000
set_option maxHeartbeats 4000000
namespace BF
open PySem L2

/-! ### numbers as texts -/
theorem strI_toList (n : Nat) : (strI (n : Int)).cps.toList = (Nat.toDigits 10 n).map Char.toNat := PySem.W.KIN.signs_num n
theorem strI_digits (n : Nat) : NumText.AllDigits (strI (n : Int)).cps.toList := by
  intro c hc
  rw [strI_toList] at hc
  obtain ⟨ch, hch, e⟩ := List.mem_map.mp hc
  have r := PyProof.Rows.digit_range (Nat.isDigit_of_mem_toDigits (by decide) (by decide) hch)
  rw [← e]
  exact r
theorem strI_len (n : Nat) : (strI (n : Int)).length = (Nat.toDigits 10 n).length := by
  have := congrArg List.length (strI_toList n)
  rw [List.length_map, Array.length_toList] at this
  exact this
theorem strI_mono {a b : Nat} (h : a ≤ b) : (strI (a : Int)).length ≤ (strI (b : Int)).length := by
  rw [strI_len, strI_len]
  have hk : 0 < (Nat.toDigits 10 b).length := Nat.length_toDigits_pos
  exact (Nat.length_toDigits_le_iff (by decide) hk).mpr (Nat.lt_of_le_of_lt h ((Nat.length_toDigits_le_iff (by decide) hk).mp (Nat.le_refl _)))
theorem strI_short {n : Nat} (h : n < 10 ^ 20) : (strI (n : Int)).length ≤ 20 := by
  rw [strI_len]; exact (Nat.length_toDigits_le_iff (by decide) (by decide)).mpr h
theorem strI_ne (n : Nat) : (strI (n : Int)).cps.toList ≠ [] := by
  rw [strI_toList]
  intro z
  exact Nat.toDigits_ne_nil (List.map_eq_nil_iff.mp z)
theorem strI_reads {n : Nat} (h : n < 10 ^ 20) : intText? (strI (n : Int)) = some (n : Int) := by
  rw [PySem.intText_digits (strI_digits n) (strI_ne n) (by have := strI_short h; omega), strI_toList, PySem.W.KIN.val_back]
theorem head_zero (n : Nat) : ∀ r, Nat.toDigits 10 n = '0' :: r → n = 0 := by
  induction n using Nat.strongRecOn with
  | _ n ih =>
    intro r h
    by_cases hn : n < 10
    · rw [Nat.toDigits_of_lt_base hn] at h
      have := (List.cons.inj h).1
      exact Nat.digitChar_eq_zero.mp this
    · rw [Nat.toDigits_of_base_le (by decide) (by omega)] at h
      cases q : Nat.toDigits 10 (n / 10) with
      | nil => exact absurd q Nat.toDigits_ne_nil
      | cons c t =>
        rw [q, List.cons_append] at h
        have e := (List.cons.inj h).1
        subst e
        have := ih (n / 10) (by omega) t q
        omega
/-! ### texts compared -/
theorem okEq_str {z : Str} (h : ∀ c ∈ z.cps.toList, c < 0x110000) : okEq (.str z) = true := by
  simp only [okEq, toPy, PySem.SeqAt.shaped, PyData.canLay0, PyData.depth, Bool.and_eq_true, decide_eq_true_eq]
  refine ⟨?_, by omega⟩
  unfold PyData.strOk
  rw [← Array.all_toList]
  exact List.all_eq_true.mpr fun c hc => decide_eq_true (h c hc)
theorem okEq_strI (n : Nat) : okEq (.str (strI (n : Int))) = true := okEq_str fun c hc => by have := strI_digits n c hc; omega
theorem eqD_str (a b : Str) : eqD (.str a) (.str b) = (a == b) := by simp [eqD, toPy, PyData.eqv]
theorem oEq_str (neg : Bool) {a b : Str} (ha : okEq (.str a) = true) (hb : okEq (.str b) = true) : oEq neg (.str a) (.str b) = some (.bl (if neg then !(a == b) else a == b)) := by
  unfold oEq
  rw [ha, hb, eqD_str]; rfl
/-! ### join and split -/
theorem cut_eq {c : Nat} : ∀ {a b x y : List Nat}, c ∉ a → c ∉ b → a ++ c :: x = b ++ c :: y → a = b ∧ x = y
  | [], [], x, y, _, _, e => ⟨rfl, (List.cons.inj e).2⟩
  | [], d :: b, x, y, _, hb, e => by
    have := (List.cons.inj e).1
    exact absurd (by rw [this]; exact List.mem_cons_self) hb
  | d :: a, [], x, y, ha, _, e => by
    have := (List.cons.inj e).1
    exact absurd (by rw [← this]; exact List.mem_cons_self) ha
  | d :: a, f :: b, x, y, ha, hb, e => by
    obtain ⟨e1, e2⟩ := List.cons.inj e
    obtain ⟨h1, h2⟩ := cut_eq (fun z => ha (List.mem_cons_of_mem _ z)) (fun z => hb (List.mem_cons_of_mem _ z)) e2
    exact ⟨by rw [e1, h1], h2⟩
theorem str_ext {a b : Str} (h : a.cps.toList = b.cps.toList) : a = b := by
  cases a; cases b
  congr
  exact Array.toList_inj.mp h
theorem join_cons (s x y : Str) (r : List Str) : (Str.join s (x :: y :: r)).cps.toList = x.cps.toList ++ (s.cps.toList ++ (Str.join s (y :: r)).cps.toList) := by
  show ((x ++ s ++ Str.join s (y :: r) : Str)).cps.toList = _
  show (x.cps ++ s.cps ++ (Str.join s (y :: r)).cps).toList = _
  simp
theorem join_inj {c : Nat} : ∀ {ps qs : List Str}, ps ≠ [] → qs ≠ [] → (∀ p ∈ ps, c ∉ p.cps.toList) → (∀ q ∈ qs, c ∉ q.cps.toList) → Str.join ⟨#[c]⟩ ps = Str.join ⟨#[c]⟩ qs → ps = qs
  | [], _, h, _, _, _, _ => absurd rfl h
  | _ :: _, [], _, h, _, _, _ => absurd rfl h
  | [p], [q], _, _, _, _, e => by rw [show p = q from e]
  | [p], q :: q2 :: qs, _, _, hp, _, e => by
    have e' := congrArg (fun z : Str => z.cps.toList) e
    simp only [join_cons] at e'
    have : c ∈ p.cps.toList := by
      have e2 : p.cps.toList = _ := e'
      rw [e2]; simp
    exact absurd this (hp p List.mem_cons_self)
  | p :: p2 :: ps, [q], _, _, _, hq, e => by
    have e' := congrArg (fun z : Str => z.cps.toList) e
    simp only [join_cons] at e'
    have : c ∈ q.cps.toList := by
      have e2 : _ = q.cps.toList := e'
      rw [← e2]; simp
    exact absurd this (hq q List.mem_cons_self)
  | p :: p2 :: ps, q :: q2 :: qs, _, _, hp, hq, e => by
    have e' := congrArg (fun z : Str => z.cps.toList) e
    simp only [join_cons] at e'
    obtain ⟨h1, h2⟩ := cut_eq (hp p List.mem_cons_self) (hq q List.mem_cons_self) (by simpa using e')
    have ih := join_inj (c := c) (ps := p2 :: ps) (qs := q2 :: qs) (by simp) (by simp) (fun x hx => hp x (List.mem_cons_of_mem _ hx)) (fun x hx => hq x (List.mem_cons_of_mem _ hx)) (str_ext h2)
    rw [str_ext h1, ih]
theorem split_ne (x y : Str) : Txt.split x y ≠ [] := by
  unfold Txt.split
  split
  · simp
  · split
    · simp
    · intro z
      have := congrArg List.length z
      rw [length_partsBetween] at this
      simp at this
theorem split_join {c : Nat} {ps : List Str} (h : ps ≠ []) (hp : ∀ p ∈ ps, c ∉ p.cps.toList) : Txt.split (Str.join ⟨#[c]⟩ ps) ⟨#[c]⟩ = ps :=
  join_inj (c := c) (split_ne _ _) h (StrLaws.split_free _ c) hp (StrLaws.join_split _ _)
/-! ### slices, walks -/
theorem sl_tail {fa : EF} {δ : List Sl} {x : Dm} {ds : List Dm} (h : dt fa δ = some (.tup (x :: ds))) : fSl fa (pSome (fC (.int 1))) pNo δ = some (.sh (.tup ds)) := by
  unfold fSl
  rw [h]
  show slD (.tup (x :: ds)) (some ((1 : Nat) : Int)) none = _
  unfold slD
  have e : HT.sIx (x :: ds).length 0 (some ((1 : Nat) : Int)) = 1 := by rw [HT.sIx_nat, List.length_cons]; omega
  show (if _ then _ else _) = _
  rw [if_neg (by rw [e]; omega), cut_from]
  rfl
theorem sl_tail_l {fa : EF} {δ : List Sl} {x : Dm} {ds : List Dm} (h : dt fa δ = some (.lst (x :: ds))) : fSl fa (pSome (fC (.int 1))) pNo δ = some (.ow ds) := by
  unfold fSl
  rw [h]
  show slD (.lst (x :: ds)) (some ((1 : Nat) : Int)) none = _
  unfold slD
  show some (Rs.ow (cutD _ _ _)) = _
  rw [cut_from]
  rfl
theorem iS_of {f : EF} {δ : List Sl} {r : Rs} {ds : List Dm} (h : f δ = some r) (h2 : walk? r.fz = some ds) : iS f δ = some ds := by unfold iS; rw [fz_some h, Option.bind_some, h2]
theorem isi_of {f : EF} {δ : List Sl} {d : Dm} {c : String} (h : dt f δ = some d) : fIsi f c δ = some (.sh (.bl (isTy d c))) := by unfold fIsi; rw [h]; rfl
theorem and_t {f g : BF'} {δ : List Sl} {b : Bool} (h : f δ = some true) (h2 : g δ = some b) : bAnd f g δ = some b := by unfold bAnd; rw [h]; exact h2
theorem and_f {f g : BF'} {δ : List Sl} (h : f δ = some false) : bAnd f g δ = some false := by unfold bAnd; rw [h]; rfl
theorem vand_t {f g : EF} {δ : List Sl} {r : Rs} (h : bB f δ = some true) (h2 : g δ = some r) : vAnd f g δ = some r := by unfold vAnd; rw [h]; exact h2
theorem vand_f {f g : EF} {δ : List Sl} (h : bB f δ = some false) : vAnd f g δ = some (.sh (.bl false)) := by unfold vAnd; rw [h]; rfl
theorem vor_f {f g : EF} {δ : List Sl} {r : Rs} (h : bB f δ = some false) (h2 : g δ = some r) : vOr f g δ = some r := by unfold vOr; rw [h]; exact h2
theorem vor_t {f g : EF} {δ : List Sl} (h : bB f δ = some true) : vOr f g δ = some (.sh (.bl true)) := by unfold vOr; rw [h]; rfl
theorem vnot_of {f : EF} {δ : List Sl} {b : Bool} (h : bB f δ = some b) : vNot f δ = some (.sh (.bl (!b))) := by unfold vNot; rw [h]; rfl
theorem fM_of {o : Dm → List Dm → Option Dm} {fa : EF} {fs : List EF} {δ : List Sl} {a d : Dm} {rs : List Rs} (h1 : dt fa δ = some a) (h2 : evs fs δ = some rs) (h3 : o a (rs.map Rs.dat) = some d) : fM o fa fs δ = some (.sh d) := by unfold fM; rw [h1, Option.bind_some, h2, Option.bind_some, h3]; rfl
theorem bls_of (bs : List Bool) : bls? (bs.map Dm.bl) = some bs := by
  induction bs with
  | nil => rfl
  | cons b bs ih => show ((Dm.bl b).bl?.bind fun i => (bls? (bs.map Dm.bl)).map fun r => i :: r) = _; rw [ih]; rfl
theorem strsD_of (zs : List Str) : strsD? (zs.map Dm.str) = some zs := by
  induction zs with
  | nil => rfl
  | cons z zs ih => show ((strsD? (zs.map Dm.str)).map fun r => z :: r) = _; rw [ih]; rfl
theorem split_of {fa fb : EF} {δ : List Sl} {z y : Str} (h1 : dt fa δ = some (.str z)) (h2 : dt fb δ = some (.str y)) (h3 : (y.length == 0) = false) (h4 : z.length + 2 ≤ sizeLine) : fSplit fa fb δ = some (.ow ((Txt.split z y).map .str)) := by
  unfold fSplit
  rw [h1, Option.bind_some, h2, Option.bind_some]
  show (if _ then _ else _) = _
  rw [if_pos ⟨h3, h4⟩]
theorem iZ_of {f g : EF} {δ : List Sl} {r q : Rs} {ds es : List Dm} (h1 : f δ = some r) (e1 : r.fz = .sh (.lst ds)) (h2 : g δ = some q) (e2 : q.fz = .sh (.lst es)) : iZ f g δ = some (zipD ds es) := by
  unfold iZ
  rw [fz_some h1, Option.bind_some, e1, fz_some h2, e2]; rfl
theorem tuple_of {f : EF} {δ : List Sl} {r : Rs} {ds : List Dm} (h : f δ = some r) (e : seqs? r.dat = some ds) : fTuple f δ = some (.sh (.tup ds)) := by
  unfold fTuple
  rw [fz_some h, Option.bind_some, Rs.fz_dat, e, Option.bind_some]
  cases r <;> rfl
/-- a loop whose body changes nothing but the loop's own name -/
theorem loop_all {i : Nat} {b : SF} {δ : List Sl} (ds : List Dm) (s : Sl) (h : ∀ d ∈ ds, b (δ.set i (.sh d)) = some (.nx (δ.set i (.sh d)))) : ∃ t, loopD (.nm i) b ds (δ.set i s) = some (.nx (δ.set i t)) := loop_stay ds s h
end BF
set_option Elab.async false
set_option linter.all false
set_option maxRecDepth 100000
set_option maxHeartbeats 4000000
namespace BF
open PySem PySem.Spec L2

/-! ### comprehensions with an if -/
theorem compLoop_anyI {prog : Program} {w : World} {A : Around} {R : Result → Shared → Prop} {s : Shared} {elt target iter cnd : Expr} {scope : Scope} {pos : Pos} {it acc : Value} {env : Env} (I : Nat → Shared → Prop)
    (turn : ∀ n s, I n s → wpAny (model prog w) A (pyNext it) (fun r s₁ => match r with
      | none => R (.ok .next) s₁
      | some v => wpAny (model prog w) A (letOwnedTupleGo target it v) (fun _ s₁' => wpAny (model prog w) A (assign target env v) (fun _ s₂ =>
          wpAny (model prog w) A (isTrue cnd env (eval cnd env)) (fun ok s₂' => if ok = true then wpAny (model prog w) A (eval elt env) (fun x s₃ =>
          wpAny (model prog w) A (call (.builtin "list.append") [acc, x]) (fun _ s₄ => ∃ m, m < n ∧ I m s₄) (notedBy (model prog w) A env fun e s' => R (.error e) s') s₃)
          (notedBy (model prog w) A env fun e s' => R (.error e) s') s₂' else ∃ m, m < n ∧ I m s₂') (notedBy (model prog w) A env fun e s' => R (.error e) s') s₂) (notedBy (model prog w) A env fun e s' => R (.error e) s') s₁') (notedBy (model prog w) A env fun e s' => R (.error e) s') s₁) (notedBy (model prog w) A env fun e s' => R (.error e) s') s)
    (n : Nat) (h : I n s) :
    codeAny (model prog w) A (.compLoop (.ListComp elt [⟨target, iter, [cnd], 0⟩] scope pos) 0 it acc env) R s := by
  refine codeAny_loop rfl I (fun n s hI => ?_) n h
  show wpAny _ _ ((compTurn (.ListComp elt [⟨target, iter, [cnd], 0⟩] scope pos) 0 it acc env).onRaise (fun x => do noteFrame x env; theTreesLotGoes x)) _ _ s
  refine wpAny_noted ?_
  rw [compTurn_list]
  refine wpAny_bind (wpAny_standAt (wpAny_bind (wpAny_mono (turn n s hI) (fun r s₁ h₁ => ?_) fun _ _ h' => h')))
  cases r with
  | none => exact wpAny_pure h₁
  | some v =>
    refine wpAny_bind (wpAny_mono h₁ (fun _ s₁' h₁' => ?_) fun _ _ h' => h')
    refine wpAny_bind (wpAny_mono h₁' (fun _ s₂ h₂ => ?_) fun _ _ h' => h')
    refine wpAny_bind (wpAny_tests_one (wpAny_mono h₂ (fun ok s₂' h₂' => ?_) fun _ _ h' => h'))
    cases ok with
    | false => exact wpAny_pure ⟨rfl, h₂'⟩
    | true => exact wpAny_bind (wpAny_bind (wpAny_mono h₂' (fun x s₃ h₃ => wpAny_bind (wpAny_mono h₃ (fun _ s₄ h₄ => wpAny_pure (wpAny_pure ⟨rfl, h₄⟩)) fun _ _ h' => h')) fun _ _ h' => h'))
def tCompWI (J : It) (g : TG) (tc : TT) (te : TE) (ix : List (Option Nat)) (σ : L2.St) (H1 : Hp) (D : Addr) (Q : Hp → Prop) : Prop :=
  ∃ W : Nat → Nat → Hp → Prop, (∃ m, W 0 m (upd H1 D (.lst []))) ∧ ∀ i m H2, W i m H2 →
    (J.stop i H2 ∧ Q H2) ∨ (J.go i H2 ∧ ∀ x H3, J.yld i H2 x H3 → g x (sub ix σ) H3 fun σ4 H4 => (∀ (j : Nat) v, (sub ix σ)[j]? = some (some v) → σ4[j]? = some (some v)) ∧ tc σ4 H4 fun b H5 => if b = true then te σ4 H5 fun y H6 => ∃ ys, H6 D = some (.lst ys) ∧ ys.length < sizeLine ∧ ∃ m', m' < m ∧ W (i + 1) m' (upd H6 D (.lst (ys ++ [y]))) else ∃ m', m' < m ∧ W (i + 1) m' H5)
theorem comp_blockI {X : Cx} {pins : List (Addr × Obj)} {σ : L2.St} {H : Hp} {s : Shared} {elt iter tg cnd : Expr} {scope : Scope} {pos : Pos} {g : TG} {tc : TT} {te : TE} {N' : List Str} {ix : List (Option Nat)} {RR : Value → Addr → Result → Shared → Prop} {E : Value → Shared → Prop} {it : Addr} {fp : List Addr} {tn : Nat → Heap → Prop} {J : It} {Q : Addr → Hp → Prop}
    (hc : X.calm = true) (ck : CompOk X.N X.env.scope scope N' ix) (hg : ∀ C s H fp, PG (Xc X scope C s H fp N' XF) tg g) (hcd : ∀ C s H fp, PT (Xc X scope C s H fp N' XF) cnd tc) (he : ∀ C s H fp, PE (Xc X scope C s H fp N' XF) elt te)
    (I : Inv X pins σ H s) (T : Turn X.prog X.w X.K tg J fp it tn) (st : tn 0 s.heap) (hf : ∀ b ∈ fp, FpOk X pins H b) (hR : ∀ D, H D = none → tCompWI J g tc te ix σ H D (Q D))
    (hRR : ∀ D C s' H', FpOk X pins H' C → X.env.locals ≠ C → s'.os = s.os → (∃ m, s'.heap.Ns C m) → (∀ h'', Heap.SameBut C s'.heap h'' → Inv X pins σ H' { s' with heap := h'' }) → Q D H' → RR (.ref D) C (.ok .next) s') :
    wpAny (model X.prog X.w) X.A (newList []) (fun acc s₃ => wpAny (model X.prog X.w) X.A (newFunctionEnv scope X.env.globals (clOf X.env.cells scope.names []) [] X.env.qual none .none (some X.env)) (fun cenv s₄ =>
      codeAny (model X.prog X.w) X.A (.compStart (.ListComp elt [⟨tg, iter, [cnd], 0⟩] scope pos) 0 (.ref it) acc { cenv with scope := relabel scope X.env }) (RR acc cenv.locals) s₄) E s₃) E s := by
  refine wpAny_newObj_type (wpAny_newFunctionEnv ck.cell (by intro y hy; simp at hy) (fun h₁ hns₁ hsb₁ => ?_) ck.kind)
  have I3 : Inv X pins σ (upd H s.heap.objs.size (.lst [])) { s with heap := s.heap.push { cls := .type "list", data := .seq ([] : List Value).toArray }, toks := s.toks } := I.lnew (its := []) (ys := []) .nil (by simp)
  have hfl : ∀ b ∈ fp, b < s.heap.objs.size := fun b hb => by
    obtain ⟨o, e, _⟩ := T.obj 0 _ st b hb
    exact Heap.lt_size e
  have hf3 : ∀ b ∈ fp, FpOk X pins (upd H s.heap.objs.size (.lst [])) b := fun b hb => by
    obtain ⟨f0, fr⟩ := hf b hb
    exact ⟨by rw [upd_ne (Nat.ne_of_lt (hfl b hb))]; exact f0, fr⟩
  obtain ⟨W, ⟨m0, w0⟩, turn⟩ := hR s.heap.objs.size I.fresh
  generalize eD : s.heap.objs.size = D at *
  have e3 : ({ s with heap := s.heap.push { cls := .type "list", data := .seq ([] : List Value).toArray }, toks := s.toks } : Shared) = { s with heap := s.heap.push { cls := .type "list", data := .seq ([] : List Value).toArray } } := rfl
  rw [e3] at I3
  generalize es3 : ({ s with heap := s.heap.push { cls := .type "list", data := .seq ([] : List Value).toArray } } : Shared) = s3 at *
  have os3 : s3.os = s.os := by rw [← es3]
  have hp3 : s3.heap = s.heap.push { cls := .type "list", data := .seq ([] : List Value).toArray } := by rw [← es3]
  have hfl3 : ∀ b ∈ fp, b < s3.heap.objs.size := fun b hb => by
    rw [hp3, Heap.size_push]; exact Nat.lt_succ_of_lt (by rw [eD]; exact hfl b hb)
  have hns : ∃ m, h₁.Ns s3.heap.objs.size m := ⟨_, hns₁⟩
  have hk : ∀ b o, s3.heap.get? b = some o → h₁.get? b = some o := fun b o e => hsb₁.extBut b o (Nat.ne_of_lt (Heap.lt_size e)) (Heap.get?_push_of_some _ e)
  have I4 : ∀ t, Inv (Xc X scope s3.heap.objs.size s3 (upd H D (.lst [])) fp N' XF) pins (sub ix σ) (upd H D (.lst [])) { s3 with heap := h₁, toks := t } := fun t => inv_comp I3 hf3 hfl3 ck hns hk
  have st4 : tn 0 h₁ := T.keep _ _ _ st fun b hb o e => hk b o (by rw [hp3]; exact Heap.get?_push_of_some _ e)
  have loop : ∀ s₄ : Shared, s₄ = { s3 with heap := h₁, toks := s3.toks + ([] : List (Str × Value)).length } →
      codeAny (model X.prog X.w) X.A (.compLoop (.ListComp elt [⟨tg, iter, [cnd], 0⟩] scope pos) 0 (.ref it) (.ref D) (Xc X scope s3.heap.objs.size s3 (upd H D (.lst [])) fp N' XF).env) (RR (.ref D) s3.heap.objs.size) s₄ := by
    rintro s₄ rfl
    have stat : ∀ {H2 : Hp}, (∀ b ∈ fp, H2 b = none) → ∀ b ∈ fp, FpOk (Xc X scope s3.heap.objs.size s3 (upd H D (.lst [])) fp N' XF) pins H2 b := fun hn b hb => fpOk_c I3 (hfl3 b hb) hb (hf3 b hb) (hn b hb) ck
    refine compLoop_anyI (fun n s' => ∃ i H', Inv (Xc X scope s3.heap.objs.size s3 (upd H D (.lst [])) fp N' XF) pins (sub ix σ) H' s' ∧ tn i s'.heap ∧ (∀ b ∈ fp, H' b = none) ∧ W i n H') ?_ m0 ⟨0, _, I4 _, st4, fun b hb => (hf3 b hb).1, w0⟩
    rintro n s5 ⟨i, H5, I5, st5, fr5, w5⟩
    rcases turn i n H5 w5 with ⟨stop, qn⟩ | ⟨go, step⟩
    · refine thn (T.done (Xc X scope s3.heap.objs.size s3 (upd H D (.lst [])) fp N' XF) rfl rfl rfl hc i pins s5 _ H5 _ I5 (stat fr5) st5 stop) fun r s6 ⟨hr, I6⟩ => ?_
      subst hr
      obtain ⟨m6, hn6, _⟩ := I6.loc
      exact hRR D s3.heap.objs.size s6 H5 (I3.fpOk (Nat.le_refl _) I6.free) (Nat.ne_of_lt I3.lt) (I6.os.trans os3) ⟨m6, hn6⟩ (fun h'' sb => comp_back I3 hf3 I6 sb) qn
    · refine thn (T.item (Xc X scope s3.heap.objs.size s3 (upd H D (.lst [])) fp N' XF) rfl rfl rfl hc i pins s5 _ H5 _ I5 (stat fr5) st5 go) fun r s6 ⟨u, hr, h6⟩ => ?_
      subst hr
      refine thn h6 fun _ s7 ⟨x, H7, I7, r7, y7, st7, fr7⟩ => ?_
      have I7' := I7.pinned (stat fr7) (T.obj _ _ st7)
      refine wpAny_mono (hg _ _ _ _ _ s7 (sub ix σ) H7 x u _ I7' r7 (step x H7 y7)) (fun _ s8 ⟨σ8, H8, I8, wk8, q8⟩ => ?_) fun _ _ f => f.elim
      refine wpAny_mono (hcd _ _ _ _ _ s8 σ8 H8 _ I8 q8) (fun okb s8' h8' => ?_) fun _ _ f => f.elim
      obtain ⟨H8', I8', q8'⟩ := h8'
      cases okb with
      | false =>
        rw [if_neg Bool.false_ne_true] at q8' ⊢
        obtain ⟨m', hm, w'⟩ := q8'
        refine ⟨m', hm, i + 1, H8', ?_, T.keep _ _ _ st7 fun b hb o e => (I8'.pin (b, o) (List.mem_append_right _ (List.mem_append_right _ (mem_pinsAt hb e)))).1, fun b hb => ?_, w'⟩
        · refine I8'.unpinned.weak ?_ fun j v e => ?_
          · exact (I5.len).trans I8'.len.symm
          · exact wk8 j v e
        · obtain ⟨o, e, d⟩ := T.obj _ _ st7 b hb
          exact (I8'.pin (b, o) (List.mem_append_right _ (List.mem_append_right _ (mem_pinsAt hb e)))).2.1
      | true =>
      rw [if_pos rfl] at q8' ⊢
      refine wpAny_mono (he _ _ _ _ _ s8' σ8 H8' _ I8' q8') (fun v9 s9 ⟨y, H9, I9, r9, q9⟩ => ?_) fun _ _ f => f.elim
      obtain ⟨ys, hD, hz, m', hm, w'⟩ := q9
      have ap := mt_append (X := Xc X scope s3.heap.objs.size s3 (upd H D (.lst [])) fp N' XF) _ s9 σ8 H9 (.ref D) [y] (.ref D) [v9] (fun _ H10 => W (i + 1) m' H10) I9 rfl (.cons r9 .nil) ⟨D, ys, y, rfl, rfl, hD, hz, w'⟩
      refine wpAny_mono ap (fun u10 s10 ⟨z10, H10, I10, _, w10⟩ => ?_) fun _ _ f => f.elim
      refine ⟨m', hm, i + 1, H10, ?_, T.keep _ _ _ st7 fun b hb o e => (I10.pin (b, o) (List.mem_append_right _ (List.mem_append_right _ (mem_pinsAt hb e)))).1, fun b hb => ?_, w10⟩
      · refine I10.unpinned.weak ?_ fun j v e => ?_
        · exact (I5.len).trans I10.len.symm
        · exact wk8 j v e
      · obtain ⟨o, e, d⟩ := T.obj _ _ st7 b hb
        exact (I10.pin (b, o) (List.mem_append_right _ (List.mem_append_right _ (mem_pinsAt hb e)))).2.1
  exact codeAny_compStart_list (loop _ rfl) (T.self _ 0 _ _ _ st4 (loop _ rfl))

def tCompI (wi : TI) (g : TG) (tc : TT) (te : TE) (ix : List (Option Nat)) : TE := fun σ H Q => wi σ H fun J H1 => ∀ D, H1 D = none → tCompWI J g tc te ix σ H1 D fun H2 => Q (.ref D) H2
theorem pe_compI {X : Cx} {elt iter tg cnd : Expr} {scope : Scope} {pos : Pos} {wi : TI} {g : TG} {tc : TT} {te : TE} {N' : List Str} {ix : List (Option Nat)} (hc : X.calm = true) (ck : CompOk X.N X.env.scope scope N' ix) (hi : PI X tg iter wi)
    (hg : ∀ C s H fp, PG (Xc X scope C s H fp N' XF) tg g) (hcd : ∀ C s H fp, PT (Xc X scope C s H fp N' XF) cnd tc) (he : ∀ C s H fp, PE (Xc X scope C s H fp N' XF) elt te) (hs : ∀ x, foldedSetIterable iter X.env x = pure x := by intro _; rfl) :
    PE X (.ListComp elt [⟨tg, iter, [cnd], 0⟩] scope pos) (tCompI wi g tc te ix) := by
  intro pins s σ H Q I h
  rw [eval_ListComp]
  refine wpAny_comprehension_free (use := none) rfl hs (hclos_of I ck) ck.kind ck.loc (thn (hi pins s σ H _ I h) fun v s1 h1 => thn h1 fun itv s2 h2 => ?_)
  obtain ⟨it, fp, tn, J, H2, e, I2, T, st2, f2, q2⟩ := h2
  subst e
  refine comp_blockI (RR := fun acc C => compPost (model X.prog X.w) X.A X.xe none (EP X pins σ Q) acc C) hc ck hg hcd he I2 T st2 f2 q2 fun D C s' H' _ _ _ hm hI q => ?_
  obtain ⟨m, hn⟩ := hm
  exact ⟨m, hn, fun h' sb => ⟨.ref D, H', hI h' sb, rfl, q⟩⟩
/-- name = [.. for ..] -/
theorem ps_setCompI {X : Cx} {elt iter tg cnd : Expr} {scope : Scope} {pos spos pos' : Pos} {wi : TI} {g : TG} {tc : TT} {te : TE} {N' : List Str} {ix : List (Option Nat)} {i : Nat} {y : Str} (hc : X.calm = true) (ck : CompOk X.N X.env.scope scope N' ix) (hi : PI X tg iter wi)
    (hg : ∀ C s H fp, PG (Xc X scope C s H fp N' XF) tg g) (hcd : ∀ C s H fp, PT (Xc X scope C s H fp N' XF) cnd tc) (he : ∀ C s H fp, PE (Xc X scope C s H fp N' XF) elt te) (hN : X.N.Nodup) (hiy : X.N[i]? = some y) (hy : Loc X.env.scope y)
    (hsw : swapsWith (.ListComp elt [⟨tg, iter, [cnd], 0⟩] scope pos) (some (.Name y pos')) spos.line X.env = pure true := by rfl) (hs : ∀ x, foldedSetIterable iter X.env x = pure x := by intro _; rfl)
    (hf : X.fn y = true ∨ X.env.scope.names.lookup y = some .local := by first | exact .inl rfl | exact .inr rfl | assumption) :
    PS X (.Assign [.Name y pos'] (.ListComp elt [⟨tg, iter, [cnd], 0⟩] scope pos) spos) (tAsg (tCompI wi g tc te ix) (gName i)) := by
  intro pins s σ H D I h
  rw [exec_Assign_Name_used _ _ _ _ hsw]
  refine wpAny_bind (wpAny_standAt (wpAny_bind ?_))
  show wpAny _ X.A (do let _ ← comprehension (.ListComp elt [⟨tg, iter, [cnd], 0⟩] scope pos) scope X.env _ (newList []) false (eval iter X.env) (some (assign (.Name y pos') X.env))) _ _ s
  refine wpAny_bind (wpAny_mono (wpAny_comprehension_free (use := some (assign (.Name y pos') X.env)) (Q := fun _ s' => SP X pins D .next s') rfl hs (hclos_of I ck) ck.kind ck.loc
    (thn (hi pins s σ H _ I h) fun v s1 h1 => thn h1 fun itv s2 h2 => ?_)) (fun _ s' hq => wpAny_pure (wpAny_pure hq)) fun _ _ e => e)
  obtain ⟨it, fp, tn, J, H2, e, I2, T, st2, f2, q2⟩ := h2
  subst e
  refine comp_blockI (RR := fun acc C => compPost (model X.prog X.w) X.A X.xe (some (assign (.Name y pos') X.env)) (fun _ s' => SP X pins D .next s') acc C) hc ck hg hcd he I2 T st2 f2 q2 fun Dd C s' H' fC hLC _ hm hI q => ?_
  obtain ⟨m, hn⟩ := hm
  show wpAny _ X.A (assign (.Name y pos') X.env (.ref Dd)) _ _ _
  have I0 : Inv X pins σ H' s' := hI s'.heap (.refl ..)
  refine wpAny_assign_Name (store_ok2 (v := .ref Dd) I0 hN hiy hy rfl (fun s2 I2 ⟨a, sb2, ha⟩ => ?_) hf)
  obtain ⟨f0, f1, _, f3, f4, f5⟩ := fC
  have hCa : C ≠ a := by
    rcases ha with rfl | ha
    · exact Ne.symm hLC
    · exact Ne.symm (f4 _ _ ha)
  refine ⟨m, hn.sameBut sb2 hCa, fun h' sb => ?_⟩
  exact ⟨_, H', I2.turned (t' := s2.toks) (fun b o hb e => (sb.2 b hb).trans e) f0 f1 f3 f4 f5, q⟩
noncomputable section
variable {X : Cx}
def mapDI (t : Tg) (c : BF') (f : EF) (δ : List Sl) : List Dm → Option (List Dm)
  | [] => some []
  | d :: r => (setT t d δ).bind fun δ1 => (c δ1).bind fun b => if b = true then (fz f δ1).bind fun y => if y.isSh then (mapDI t c f δ r).map fun ys => y.dat :: ys else none else mapDI t c f δ r
def fCompI (src : IF) (t : Tg) (ix : List (Option Nat)) (c : BF') (f : EF) : EF := fun δ => (src δ).bind fun ds => if ds.length ≤ sizeLine then (mapDI t c f (subS ix δ) ds).map .ow else none
theorem comp_runI {K : PySem.W.Frag} {src : IF} {t : Tg} {ix : List (Option Nat)} {c : BF'} {f : EF} (inj : Inj ix) (own : Own t ix) {σ : L2.St} {H : Hp} {Q : VK} (h : tD K (fCompI src t ix c f) σ H Q) : tCompI (tI K src) (tGD K t) (tTD K c) (tD K (fz f)) ix σ H Q := by
  obtain ⟨B, G0, G, δ, r, S, e, k⟩ := h
  obtain ⟨ds, eds, e⟩ := Option.bind_eq_some_iff.mp e
  by_cases hlen : ds.length ≤ sizeLine
  case neg => rw [if_neg hlen] at e; cases e
  rw [if_pos hlen] at e
  obtain ⟨ys, eys, e⟩ := Option.map_eq_some_iff.mp e
  subst e
  refine ⟨B, G0, G, δ, ds, S, eds, fun J G1 H1 S1 g1 jd D hD => ?_⟩
  have k1 := KD.step ⟨S, k⟩ S1 g1
  -- turn i: the first i are done, zs are kept so far
  refine ⟨fun i m H2 => m = ds.length - i ∧ i ≤ ds.length ∧ ∃ G2 vs zs, Gr G1 H1 G2 H2 ∧ Same G2 H2 ∧ H2 D = some (.lst vs) ∧ G2 D = none ∧ Reps K G2 zs vs ∧ zs.length ≤ i ∧ ∃ ws, mapDI t c f (subS ix δ) (ds.drop i) = some ws ∧ ys = zs ++ ws, ⟨ds.length, by simp, Nat.zero_le _, G1, [], [], ⟨Same.refl G1, Same.upd_new hD, fun _ _ => rfl⟩, S1.gh.trans (Same.upd_new hD), upd_same, S1.g_free hD, Reps.nil, Nat.le_refl _, ys, eys, rfl⟩, ?_⟩
  rintro i m H2 ⟨rfl, hi, G2, vs, zs, g2, gh2, e2, e3, rr, hzs, ws, em, rfl⟩
  obtain ⟨jg, js⟩ := jd i H2 G2 g2.gg gh2
  have S2 : Sim K B G0 G2 δ σ H2 := S1.ext g2 gh2
  by_cases hlt : i < ds.length
  · have hd : ds[i]? = some ds[i] := List.getElem?_eq_getElem hlt
    obtain ⟨go, yl⟩ := jg _ hd
    rw [List.drop_eq_getElem_cons hlt] at em
    obtain ⟨δ3, e4, em⟩ := Option.bind_eq_some_iff.mp (show ((setT t ds[i] (subS ix δ)).bind fun δ1 => (c δ1).bind fun b => if b = true then (fz f δ1).bind fun y => if y.isSh then (mapDI t c f (subS ix δ) (ds.drop (i + 1))).map fun ys => y.dat :: ys else none else mapDI t c f (subS ix δ) (ds.drop (i + 1))) = some ws from em)
    obtain ⟨b, eb, em⟩ := Option.bind_eq_some_iff.mp em
    refine .inr ⟨go, fun x H3 yx => ?_⟩
    obtain ⟨G3, g3, gh3, rx⟩ := yl x H3 yx
    have S3 := S2.ext g3 gh3
    refine ⟨B, G0, G3, subS ix δ, ds[i], δ3, S3.sub inj, rx, e4, fun σ4 S4 hk => ⟨fun j v hv => ?_, B, G0, G3, δ3, b, S4, eb, fun G4 H4 S4' g4 => ?_⟩⟩
    · rw [hk j fun hj => ?_]
      · exact hv
      · have := own j hj
        rw [sub_at] at hv
        obtain ⟨o, eo, hv⟩ := Option.map_eq_some_iff.mp hv
        rw [List.getD_eq_getElem?_getD, eo] at this
        have this' : o = none := this
        subst this'
        cases hv
    · have gg0 := g3.trans g4
      cases b with
      | false =>
        rw [if_neg Bool.false_ne_true] at em
        refine Eq.mpr (if_neg Bool.false_ne_true) ?_
        refine ⟨ds.length - (i + 1), by omega, rfl, hlt, G4, vs, zs, g2.trans gg0, S4'.gh, gg0.hh _ _ e2, by rw [gg0.nw D (by rw [e2]; simp)]; exact e3, rr.mono gg0.gg, by omega, ws, em, rfl⟩
      | true =>
        rw [if_pos rfl] at em
        refine Eq.mpr (if_pos rfl) ?_
        obtain ⟨y, e5, em⟩ := Option.bind_eq_some_iff.mp em
        by_cases hsh : y.isSh = true
        case neg => rw [if_neg hsh] at em; cases em
        rw [if_pos hsh] at em
        obtain ⟨us, eus, em⟩ := Option.map_eq_some_iff.mp em
        subst em
        refine ⟨B, G0, G4, δ3, y, S4', e5, fun w G5 H5 S5 g5 q5 => ?_⟩
        have gg := gg0.trans g5
        cases y with
        | ow _ => exact absurd (show false = true from hsh) Bool.false_ne_true
        | al _ _ => exact absurd (show false = true from hsh) Bool.false_ne_true
        | ft _ _ => exact absurd (show false = true from hsh) Bool.false_ne_true
        | sh dy =>
          have hq : Rep K G5 dy w := q5
          have eD : H5 D = some (.lst vs) := gg.hh _ _ e2
          have gD : G5 D = none := by rw [gg.nw D (by rw [e2]; simp)]; exact e3
          refine ⟨vs, eD, by rw [← rr.length]; omega, ds.length - (i + 1), by omega, rfl, hlt, G5, vs ++ [w], zs ++ [dy], ⟨g2.gg.trans gg.gg, fun b u eb => ?_, fun b hb => ?_⟩, fun b u eb => ?_, upd_same, gD, (rr.mono gg.gg).append (Reps.cons hq Reps.nil), by rw [List.length_append, List.length_singleton]; omega, us, eus, by rw [List.append_assoc]; rfl⟩
          · rw [upd_ne (ne_of_none eb hD)]; exact gg.hh _ _ (g2.hh _ _ eb)
          · have hb2 : H2 b ≠ none := by
              cases q : H1 b with
              | none => exact absurd q hb
              | some o => rw [g2.hh b o q]; simp
            rw [gg.nw b hb2, g2.nw b hb]
          · rw [upd_ne (ne_of_none eb gD)]; exact S5.gh _ _ eb
  · have hi' : i = ds.length := Nat.le_antisymm hi (Nat.not_lt.mp hlt)
    subst hi'
    rw [List.drop_length] at em
    cases em
    refine .inl ⟨js (Nat.le_refl _), ?_⟩
    refine k1.out _ G2 H2 S2 g2 ⟨D, vs, rfl, e2, e3, hD, ?_⟩
    rw [List.append_nil]
    exact rr
theorem pd_compI {elt iter tg cnd : Expr} {scope : Scope} {pos : Pos} {src : IF} {t : Tg} {c : BF'} {f : EF} {N' : List Str} {ix : List (Option Nat)} (hc : X.calm = true) (ck : CompOk X.N X.env.scope scope N' ix) (inj : Inj ix) (own : Own t ix) (hi : PID X tg iter src)
    (hg : ∀ C s H fp, PGD (Xc X scope C s H fp N' XF) tg t) (hcd : ∀ C s H fp, PTD (Xc X scope C s H fp N' XF) cnd c) (he : ∀ C s H fp, PD (Xc X scope C s H fp N' XF) elt f) (hs : ∀ x, foldedSetIterable iter X.env x = pure x := by intro _; rfl) : PD X (.ListComp elt [⟨tg, iter, [cnd], 0⟩] scope pos) (fCompI src t ix c f) :=
  PE.imp (pe_compI (g := tGD X.K t) (tc := tTD X.K c) (te := tD X.K (fz f)) hc ck hi hg hcd (fun C s H fp => (he C s H fp).fz) hs) fun σ H Q h => comp_runI inj own h
theorem psd_setCompI {elt iter tg cnd : Expr} {scope : Scope} {pos spos pos' : Pos} {src : IF} {t : Tg} {c : BF'} {f : EF} {N' : List Str} {ix : List (Option Nat)} {i : Nat} {y : Str} (hc : X.calm = true) (ck : CompOk X.N X.env.scope scope N' ix) (inj : Inj ix) (own : Own t ix) (hi : PID X tg iter src)
    (hg : ∀ C s H fp, PGD (Xc X scope C s H fp N' XF) tg t) (hcd : ∀ C s H fp, PTD (Xc X scope C s H fp N' XF) cnd c) (he : ∀ C s H fp, PD (Xc X scope C s H fp N' XF) elt f) (hN : X.N.Nodup) (hiy : X.N[i]? = some y) (hy : Loc X.env.scope y)
    (hsw : swapsWith (.ListComp elt [⟨tg, iter, [cnd], 0⟩] scope pos) (some (.Name y pos')) spos.line X.env = pure true := by rfl) (hs : ∀ x, foldedSetIterable iter X.env x = pure x := by intro _; rfl) (hf : X.fn y = true ∨ X.env.scope.names.lookup y = some .local := by first | exact .inl rfl | exact .inr rfl | assumption) :
    PSD X (.Assign [.Name y pos'] (.ListComp elt [⟨tg, iter, [cnd], 0⟩] scope pos) spos) (gSet i (fCompI src t ix c f)) := by
  refine PS.imp (ps_setCompI (g := tGD X.K t) (tc := tTD X.K c) (te := tD X.K (fz f)) hc ck hi hg hcd (fun C s H fp => (he C s H fp).fz) hN hiy hy hsw hs hf) fun D σ H h => ?_
  obtain ⟨B, G0, G, δ, fl, S, e, k⟩ := set_run h
  exact comp_runI inj own ⟨B, G0, G, δ, fl, S, e, k⟩

theorem psd_setCompIF {elt iter tg cnd : Expr} {scope : Scope} {pos spos pos' : Pos} {src : IF} {t : Tg} {c : BF'} {f : EF} {N' : List Str} {ix : List (Option Nat)} {i : Nat} {y : Str} (hc : X.calm = true) (ck : CompOk X.N X.env.scope scope N' ix) (inj : Inj ix) (own : Own t ix) (hi : PID X tg iter src)
    (hg : ∀ C s H fp, PGD (Xc X scope C s H fp N' XF) tg t) (hcd : ∀ C s H fp, PTD (Xc X scope C s H fp N' XF) cnd c) (he : ∀ C s H fp, PD (Xc X scope C s H fp N' XF) elt f) (hN : X.N.Nodup) (hiy : X.N[i]? = some y) (hy : Loc X.env.scope y)
    (hsw : swapsWith (.ListComp elt [⟨tg, iter, [cnd], 0⟩] scope pos) (some (.Name y pos')) spos.line X.env = pure true := by rfl) (hs : ∀ x, foldedSetIterable iter X.env x = pure x := by intro _; rfl) (hf : X.fn y = true ∨ X.env.scope.names.lookup y = some .local := by first | exact .inl rfl | exact .inr rfl | assumption) :
    PSD X (.Assign [.Name y pos'] (.ListComp elt [⟨tg, iter, [cnd], 0⟩] scope pos) spos) (gSet i (fz (fCompI src t ix c f))) := by
  refine PS.imp (ps_setCompI (g := tGD X.K t) (tc := tTD X.K c) (te := tD X.K (fz f)) hc ck hi hg hcd (fun C s H fp => (he C s H fp).fz) hN hiy hy hsw hs hf) fun D σ H h => ?_
  exact comp_runI inj own (tD_fz (set_run h))
/-! ### a shift of a greater number -/
def shlOkB (i j : Int) : Bool := okB (0 ≤ j ∧ j ≤ 1000000 ∧ Builtin.Int.intBits i ≤ 100000)
def oShlB := oI shlOkB fun i j => .int (i * 2 ^ j.toNat)
theorem op_shlB : OpR X (binaryOp .LShift) (rI (fun i j => 0 ≤ j ∧ j ≤ 1000000 ∧ Builtin.Int.intBits i ≤ 100000) fun i j => .int (i * 2 ^ j.toNat)) := opI fun _ _ _ _ _ _ _ hc q => PyProof.Rows.lshift_int hc.1 (by omega) q
theorem pd_shlB {a b : Expr} {pos : Pos} {fa fb : EF} (ha : PD X a fa) (hb : PD X b fb) : PD X (.BinOp a .LShift b pos) (op2 oShlB fa fb) := pd_op2 op_shlB (op2_I fun i j h => okB_iff.mp h) ha hb
theorem intBits_nat {a k : Nat} (h : a < 2 ^ k) : Builtin.Int.intBits (a : Int) ≤ k := by
  unfold Builtin.Int.intBits
  by_cases h0 : a = 0
  · subst h0; simp
  · have hz : ((a : Int) == 0) = false := by simp; exact h0
    rw [hz, if_neg Bool.false_ne_true, Int.natAbs_natCast]
    have := (Nat.log2_lt h0).mpr h
    omega
theorem shlB {δ : List Sl} {fa fb : EF} {a b k : Nat} (h1 : dt fa δ = some (.int a)) (h2 : dt fb δ = some (.int b)) (h : Builtin.Int.intBits (a : Int) ≤ k) (h' : b ≤ 1000000) (hk : k ≤ 100000 := by decide) : op2 oShlB fa fb δ = some (.sh (.int (a * 2 ^ b : Nat))) := op2_of h1 h2 (by
  have e : shlOkB (a : Int) (b : Int) = true := okB_of ⟨by omega, by omega, Nat.le_trans h hk⟩
  show oI _ _ _ _ = _
  rw [oI_int, if_pos e, Int.toNat_natCast]; push_cast; rfl)
end
end BF
set_option Elab.async false
set_option linter.all false
set_option maxRecDepth 100000
set_option maxHeartbeats 4000000
namespace BF
open PySem PySem.Spec L2
noncomputable section
variable {X : Cx}
/-! ### reversed(list) -/
def Itv (K : PySem.W.Frag) (a : Addr) (n : Nat) : It :=
  ⟨fun i H => i < n ∧ ∃ xs x, SqL K H a xs ∧ xs[n - 1 - i]? = some x, fun i H x H' => H' = H ∧ ∀ xs, SqL K H a xs → xs[n - 1 - i]? = some x, fun i _ => n ≤ i⟩
theorem turn_rev {P : Program} {w : World} {K : PySem.W.Frag} {tg : Expr} (a it : Addr) (n : Nat) : Turn P w K tg (Itv K a n) [it] it (fun i h => i ≤ n ∧ h.IsRevIter it a ((n : Int) - 1 - (i : Int))) where
  mem := by simp
  obj := fun i h st b hb => by
    have e : b = it := by simpa using hb
    subst e
    obtain ⟨_, o, e, c, d⟩ := st
    exact ⟨o, e, fun v z => by rw [d] at z; cases z⟩
  keep := fun i h h' st k => ⟨st.1, st.2.at fun o e => k it (by simp) o e⟩
  item := by
    intro X hP hw hK hc i pins s σ H E I hf st hg
    subst hP hw hK
    obtain ⟨hin, xs, x, hq, hx⟩ := hg
    obtain ⟨its, rv, p, hz⟩ := I.list hq
    obtain ⟨u, hu, ru⟩ := rv.get hx
    obtain ⟨f0, f1, f2, f3, f4, f5⟩ := hf it (by simp)
    have ei : (n : Int) - 1 - (i : Int) = ((n - 1 - i : Nat) : Int) := by omega
    have st2 := st.2
    rw [ei] at st2
    refine wpAny_pyNext_rev_item st2 p.isList (x := u) (by simpa using hu) fun h' st' sb => ?_
    have I1 : Inv X pins σ H { s with heap := h' } := I.turned (t' := s.toks) (fun b o hb e => (sb.2 b hb).trans e) f0 f1 f3 f4 f5
    have ej : ((n - 1 - i : Nat) : Int) - 1 = (n : Int) - 1 - ((i + 1 : Nat) : Int) := by omega
    rw [ej] at st'
    obtain ⟨o, e, c, d⟩ := id st'
    exact ⟨u, rfl, go_of (s := { s with heap := h' }) e c d (by decide) ⟨x, H, I1, ru, ⟨rfl, fun ys hy => by rw [I.list_inj hy hq]; exact hx⟩, ⟨hin, st'⟩, fun b hb => (hf b hb).1⟩⟩
  done := by
    intro X hP hw hK hc i pins s σ H E I hf st hg
    subst hP hw hK
    obtain ⟨f0, f1, f2, f3, f4, f5⟩ := hf it (by simp)
    have hg' : n ≤ i := hg
    have ei : (n : Int) - 1 - (i : Int) = -1 := by have := st.1; omega
    have st2 := st.2
    rw [ei] at st2
    exact wpAny_pyNext_rev_end (I.ok.hd hc) st2 fun h' eb => ⟨rfl, I.turned (t' := s.toks) (fun b o hb e => eb b o hb e) f0 f1 f3 f4 f5⟩
  self := fun _ _ _ _ _ st h => wpAny_pyIter_revIter st.2 h
def iRevd (K : PySem.W.Frag) (ta : TA) : TI := fun σ H R => ta σ H fun vs H1 => ∃ a xs, vs = [.ref a] ∧ SqL K H1 a xs ∧ R (Itv K a xs.length) H1
theorem pi_revd {tg a : Expr} {ta : TA} {p pos : Pos} (hg : Gl X "reversed") (hm : X.mg "reversed" = none) (hb : bootBuiltins "reversed" = some (.type "reversed")) (ha : PA X [a] ta) (hs : starEach [a] X.env = [(false, eval a X.env)] := by rfl) :
    PI X tg (.Call (.Name "reversed" p) [a] [] pos) (iRevd X.K ta) := by
  intro pins s σ H R I h
  refine PyProof.Rows.Call_ (ld_blt I hg hm hb (PyProof.Rows.callWith_type1 (thn (ha pos pins s σ H _ I h) fun us s1 ⟨vs, H1, I1, r1, q1⟩ => ?_) hs rfl))
  obtain ⟨l, xs, e, hq, q⟩ := q1
  subst e
  obtain ⟨u, rfl, ru⟩ := vals1 r1
  cases ru
  obtain ⟨its, rv, pl, hz⟩ := I1.list hq
  have hl := rv.length
  refine call_reversed_list pl.isList ?_
  have st0 : (s1.heap.push (revObj l ((its.toArray.size : Int) - 1))).IsRevIter s1.heap.objs.size l ((its.toArray.size : Int) - 1) := ⟨_, Heap.get?_push_size _ rfl, rfl, rfl⟩
  refine wpAny_pyIter_revIter (s := { s1 with heap := s1.heap.push (revObj l ((its.toArray.size : Int) - 1)) }) st0 ?_
  refine ⟨s1.heap.objs.size, [s1.heap.objs.size], _, _, H1, rfl, I1.kept (t' := s1.toks) fun b o e => Heap.get?_push_of_some _ e, turn_rev l _ xs.length, ⟨Nat.zero_le _, ?_⟩, fun b hb => ?_, q⟩
  · have e : (xs.length : Int) - 1 - ((0 : Nat) : Int) = (its.toArray.size : Int) - 1 := by simp; omega
    rw [e]
    exact st0
  · have e : b = s1.heap.objs.size := by simpa using hb
    subst e
    exact I1.fpOk (Nat.le_refl _) (I1.hok.fresh (Nat.le_refl _))
theorem jd_rev {K : PySem.W.Frag} {G : Hp} {a : Addr} {xs : List V} {ds : List Dm} (hq : SqL K G a xs) (rr : Reps K G ds xs) : JD K (Itv K a xs.length) ds.reverse G := by
  intro i H G1 g1 g2
  have hq1 := g2.seq (g1.seq hq)
  have hl := rr.length
  refine ⟨fun d hd => ?_, fun hi => by rw [List.length_reverse] at hi; show xs.length ≤ i; omega⟩
  have hin : i < ds.length := by have := (List.getElem?_eq_some_iff.mp hd).1; rwa [List.length_reverse] at this
  rw [List.getElem?_reverse hin, show ds.length - 1 - i = xs.length - 1 - i by omega] at hd
  obtain ⟨v, hv, rv⟩ := rr.get hd
  refine ⟨⟨by omega, xs, v, hq1, hv⟩, fun x H' y => ?_⟩
  obtain ⟨rfl, y⟩ := y
  have := y xs hq1
  rw [hv] at this
  cases this
  exact ⟨G1, Gr.refl, g2, rv.mono g1⟩
def iV (f : EF) : IF := fun δ => (fz f δ).bind fun r => (shl? r).map List.reverse
theorem pi_v {tg a : Expr} {f : EF} {p pos : Pos} (h : PD X a f) (hg : Gl X "reversed") (hm : X.mg "reversed" = none) (hb : bootBuiltins "reversed" = some (.type "reversed")) (hs : starEach [a] X.env = [(false, eval a X.env)] := by rfl) :
    PID X tg (.Call (.Name "reversed" p) [a] [] pos) (iV f) := PI.imp (pi_revd hg hm hb (pad_cons h pad_nil hs) hs) fun σ H R q => by
  obtain ⟨B, G0, G, δ, ds, S, e, k⟩ := q
  obtain ⟨r, er, e⟩ := Option.bind_eq_some_iff.mp e
  obtain ⟨es, ees, e⟩ := Option.map_eq_some_iff.mp e
  subst e
  rw [shl_some ees] at er
  unfold fz at er
  obtain ⟨r0, er0, er⟩ := Option.map_eq_some_iff.mp er
  refine ⟨B, G0, G, δ, [r0.fz], S, by unfold evs evs; rw [er0]; rfl, fun vs G1 H1 S1 g1 q1 => ?_⟩
  obtain ⟨v, rfl, q⟩ := RsRs.one q1
  rw [er] at q
  have q1' : Rep X.K G1 (.lst es) v := q
  unfold Rep at q1'
  obtain ⟨a, xs, rfl, hq, rr⟩ := q1'
  exact ⟨a, xs, rfl, S1.gh.seq hq, k _ G1 H1 S1 g1 (jd_rev hq rr)⟩
theorem bo_reversed : bootBuiltins "reversed" = some (.type "reversed") := by decide +kernel
theorem iV_of {f : EF} {δ : List Sl} {r : Rs} {ds : List Dm} (h : f δ = some r) (h2 : r.fz = .sh (.lst ds)) : iV f δ = some ds.reverse := by
  unfold iV
  rw [fz_some h, Option.bind_some, h2]
  rfl
end
end BF
set_option Elab.async false
set_option linter.all false
set_option maxRecDepth 100000
set_option maxHeartbeats 4000000
namespace LW
open PySem L2 BF
noncomputable section
def F__law_at : FD := bodyD 2 2
    (gSeq (gIf (bB (op2 oLt (fVar 1) (fB oLen [(fVar 0)])))
      (gRet (fIx (fVar 0) (fVar 1)))
      BF.gNil)
      (gRet (fC (.int 0))))
def F__law_value : FD := bodyD 3 3
    (gSeq (gIf (bB (op2 (oEq false) (fIx (fVar 2) (fC (.int 0))) (fC (.str "fix"))))
      (gRet (fIx (fVar 2) (fC (.int 1))))
      BF.gNil)
      (gSeq (gIf (bB (op2 (oEq false) (fIx (fVar 2) (fC (.int 0))) (fC (.str "mask"))))
      (gRet (op2 oAnd (fIx (fVar 1) (fIx (fVar 2) (fC (.int 1)))) (fIx (fVar 2) (fC (.int 2)))))
      BF.gNil)
      (gSeq (gIf (bB (op2 (oEq false) (fIx (fVar 2) (fC (.int 0))) (fC (.str "turn"))))
      (gRet (op2 oXor (fIx (fVar 1) (fIx (fVar 2) (fC (.int 1)))) (fIx (fVar 2) (fC (.int 2)))))
      BF.gNil)
      (gSeq (gIf (bB (op2 (oEq false) (fIx (fVar 2) (fC (.int 0))) (fC (.str "both"))))
      (gRet (op2 oXor (fIx (fVar 1) (fIx (fVar 2) (fC (.int 1)))) (fIx (fVar 1) (fIx (fVar 2) (fC (.int 2))))))
      BF.gNil)
      (gSeq (gIf (bB (op2 (oEq false) (fIx (fVar 2) (fC (.int 0))) (fC (.str "up"))))
      (gRet (op2 oMod (op2 oMul (fIx (fVar 1) (fIx (fVar 2) (fC (.int 1)))) (op2 oShl (fC (.int 1)) (fIx (fVar 2) (fC (.int 2))))) (op2 oShl (fC (.int 1)) (fVar 0))))
      BF.gNil)
      (gRet (op2 oDiv (fIx (fVar 1) (fIx (fVar 2) (fC (.int 1)))) (op2 oShl (fC (.int 1)) (fIx (fVar 2) (fC (.int 2)))))))))))
def B__law_answer_1 : SF :=
    (gApp 3 (fCall F__law_value [(fVar 0), (fVar 3), (fVar 4)]))
def F__law_answer : FD := bodyD 3 5
    (gSeq (gSet 3 (fLst [(fVar 2)]))
      (gSeq (gFor (iS (fVar 1)) (.nm 4) B__law_answer_1)
      (gFrz [3] (gRet (fIx (fVar 3) (fNeg (fC (.int 1))))))))
def F__law_whole : FD := bodyD 1 1
    (gRet (vAnd (fIsi (fVar 0) "int") (vNot (fIsi (fVar 0) "bool"))))
def B__law_fine_row_1 : SF :=
    (gIf (bOr (bNot (bB (fCall F__law_whole [(fVar 3)]))) (bB (op2 oLt (fVar 3) (fC (.int 0)))))
      (gRet (fC (.bl false)))
      BF.gNil)
def F__law_fine_row : FD := bodyD 3 5
    (gSeq (gIf (bOr (bNot (bB (fIsi (fVar 0) "tuple"))) (bNot (bB (fIsi (fIx (fVar 0) (fC (.int 0))) "str"))))
      (gRet (fC (.bl false)))
      BF.gNil)
      (gSeq (gFor (iS (fSl (fVar 0) (pSome (fC (.int 1))) pNo)) (.nm 3) B__law_fine_row_1)
      (gSeq (gSet 4 (op2 oSub (op2 oShl (fC (.int 1)) (fVar 1)) (fC (.int 1))))
      (gSeq (gIf (bB (op2 (oEq false) (fIx (fVar 0) (fC (.int 0))) (fC (.str "fix"))))
      (gRet (vAnd (op2 (oEq false) (fB oLen [(fVar 0)]) (fC (.int 2))) (op2 oLe (fIx (fVar 0) (fC (.int 1))) (fVar 4))))
      BF.gNil)
      (gSeq (gIf (bOr (bB (op2 (oEq true) (fB oLen [(fVar 0)]) (fC (.int 3)))) (bB (op2 oGe (fIx (fVar 0) (fC (.int 1))) (fVar 2))))
      (gRet (fC (.bl false)))
      BF.gNil)
      (gSeq (gIf (bB (op2 (oEq false) (fIx (fVar 0) (fC (.int 0))) (fC (.str "both"))))
      (gRet (op2 oLt (fIx (fVar 0) (fC (.int 2))) (fVar 2)))
      BF.gNil)
      (gSeq (gIf (bB (op2 (oIn false) (fIx (fVar 0) (fC (.int 0))) (fLst [(fC (.str "up")), (fC (.str "down"))])))
      (gRet (op2 oLe (fIx (fVar 0) (fC (.int 2))) (fVar 1)))
      BF.gNil)
      (gRet (vAnd (op2 (oIn false) (fIx (fVar 0) (fC (.int 0))) (fLst [(fC (.str "mask")), (fC (.str "turn"))])) (op2 oLe (fIx (fVar 0) (fC (.int 2))) (fVar 4)))))))))))
def B__law_fine_1 : SF :=
    (gIf (bNot (bB (fCall F__law_fine_row [(fIx (fVar 0) (fVar 3)), (fVar 1), (op2 oAdd (fVar 3) (fC (.int 1)))])))
      (gRet (fC (.bl false)))
      BF.gNil)
def F__law_fine : FD := bodyD 3 4
    (gSeq (gIf (bOr (bNot (bB (fIsi (fVar 0) "list"))) (bB (op2 oGt (fB oLen [(fVar 0)]) (fVar 2))))
      (gRet (fC (.bl false)))
      BF.gNil)
      (gSeq (gFor (iR (fB oLen [(fVar 0)])) (.nm 3) B__law_fine_1)
      (gRet (fC (.bl true)))))
def B__law_places_1 : SF :=
    (gSeq (gIf (bB (op2 (oEq false) (op2 oMod (fVar 0) (fC (.int 2))) (fC (.int 1))))
      (gApp 1 (fVar 2))
      BF.gNil)
      (gSeq (gSet 0 (op2 oDiv (fVar 0) (fC (.int 2))))
      (gSet 2 (op2 oAdd (fVar 2) (fC (.int 1))))))
def F__law_places : FD := bodyD 1 3
    (gSeq (gSet 1 (fLst []))
      (gSeq (gSet 2 (fC (.int 0)))
      (gSeq (gWhile (bB (op2 oGt (fVar 0) (fC (.int 0)))) B__law_places_1)
      (gRet (fVar 1)))))
def B__law_spread_1 : SF :=
    (gSeq (gSet 2 (op2 oAdd (fVar 2) (op2 oMul (op2 oMod (op2 oDiv (fVar 0) (op2 oShl (fC (.int 1)) (fVar 3))) (fC (.int 2))) (op2 oShl (fC (.int 1)) (fVar 4)))))
      (gSet 3 (op2 oAdd (fVar 3) (fC (.int 1)))))
def F__law_spread : FD := bodyD 2 5
    (gSeq (gSet 2 (fC (.int 0)))
      (gSeq (gSet 3 (fC (.int 0)))
      (gSeq (gFor (iL (fCall F__law_places [(fVar 1)])) (.nm 4) B__law_spread_1)
      (gRet (fVar 2)))))
def B__law_times_1 : SF :=
    (gSet 1 (op2 oAdd (fVar 1) (fC (.int 1))))
def F__law_times : FD := bodyD 1 2
    (gSeq (gSet 1 (fC (.int 0)))
      (gSeq (gWhile (bB (op2 oLt (op2 oShl (fC (.int 1)) (fVar 1)) (fVar 0))) B__law_times_1)
      (gRet (fVar 1))))
def B__law_holds_1 : SF :=
    (gIf (bB (op2 (oEq true) (fCall F__law_answer [(fVar 1), (fVar 0), (fVar 4)]) (fCall F__law_spread [(fVar 4), (fVar 2)])))
      (gRet (fC (.bl false)))
      BF.gNil)
def F__law_holds : FD := bodyD 4 5
    (gSeq (gIf (bNot (bB (fCall F__law_fine [(fVar 0), (fVar 1), (op2 oAdd (op2 oMul (fC (.int 4)) (fCall F__law_times [(fVar 1)])) (fC (.int 1)))])))
      (gRet (fC (.bl false)))
      BF.gNil)
      (gSeq (gFor (iS (fVar 3)) (.nm 4) B__law_holds_1)
      (gRet (fC (.bl true)))))
def F__law_width : FD := bodyD 1 1
    (gRet (fIx (fLst [(fC (.int 1)), (fC (.int 2)), (fC (.int 4)), (fC (.int 8)), (fC (.int 16)), (fC (.int 32)), (fC (.int 64)), (fC (.int 8)), (fC (.int 16)), (fC (.int 4)), (fC (.int 32))]) (op2 oMod (fVar 0) (fC (.int 11)))))
def F__law_mixed : FD := bodyD 2 3
    (gSeq (gIf (bB (op2 oGe (fVar 0) (op2 oPow (fC (.int 10)) (fC (.int 40)))))
      (gRet (op2 oMod (op2 oDiv (op2 oSub (fVar 0) (op2 oPow (fC (.int 10)) (fC (.int 40)))) (op2 oShl (fC (.int 1)) (op2 oMul (fC (.int 31)) (op2 oMod (fVar 1) (fC (.int 60)))))) (op2 oShl (fC (.int 1)) (fC (.int 31)))))
      BF.gNil)
      (gSeq (gSet 2 (op2 oMod (op2 oAdd (op2 oAdd (op2 oMul (fVar 0) (fC (.int 1103515245))) (op2 oMul (op2 oMul (fC (.int 7919)) (fVar 1)) (fVar 1))) (fVar 1)) (fC (.int 2147483647))))
      (gSeq (gSet 2 (op2 oMod (op2 oMul (fVar 2) (fVar 2)) (fC (.int 2147483629))))
      (gRet (op2 oMod (op2 oMul (fVar 2) (fC (.int 69621))) (fC (.int 2147483587)))))))
def F__law_word : FD := bodyD 3 5
    (gSeq (gSet 3 (op2 oAdd (op2 oMul (fCall F__law_mixed [(fVar 0), (fVar 1)]) (fC (.int 2147483629))) (fCall F__law_mixed [(fVar 0), (op2 oAdd (fVar 1) (fC (.int 101)))])))
      (gSeq (gSet 3 (op2 oAdd (op2 oMul (fVar 3) (fC (.int 2147483587))) (fCall F__law_mixed [(fVar 0), (op2 oAdd (fVar 1) (fC (.int 211)))])))
      (gSeq (gSet 4 (fz (fLst [(op2 oDiv (fVar 3) (fC (.int 8))), (op2 oDiv (fVar 3) (fC (.int 8))), (fC (.int 0)), (fNeg (fC (.int 1))), (op2 oMod (op2 oDiv (fVar 3) (fC (.int 8))) (fC (.int 16))), (op2 oSub (fNeg (fC (.int 2))) (op2 oMod (op2 oDiv (fVar 3) (fC (.int 8))) (fC (.int 16))))])))
      (gSeq (gSet 4 (fz (fCat (fVar 4) (fLst [(op2 oShl (fC (.int 1)) (op2 oMod (op2 oDiv (fVar 3) (fC (.int 8))) (fVar 2))), (fVar 0)]))))
      (gSeq (gSet 3 (fz (fIx (fVar 4) (op2 oMod (fVar 3) (fC (.int 8))))))
      (gRet (op2 oMod (fVar 3) (op2 oShl (fC (.int 1)) (fVar 2)))))))))
def F_moving : FD := bodyD 4 4
    (gRet (fLst [(fTup [(fC (.str "mask")), (fVar 3), (fVar 1)]), (fTup [(fC (.str "both")), (fVar 3), (op2 oAdd (fVar 3) (fC (.int 1)))]), (fTup [(fVar 0), (op2 oAdd (fVar 3) (fC (.int 1))), (fVar 2)]), (fTup [(fC (.str "both")), (op2 oAdd (fVar 3) (fC (.int 2))), (op2 oAdd (fVar 3) (fC (.int 3)))])]))
def F_places_of : FD := bodyD 2 2
    (gRet (fCompI (iR (fVar 0)) (.nm 0) [none, some 0, some 1] (bB (op2 (oEq false) (op2 oAnd (op2 oShr (fVar 2) (fVar 0)) (fC (.int 1))) (fC (.int 1)))) (fVar 0)))
def B_pressed_1 : SF :=
    (gSet 3 (op2 oOr (fVar 3) (op2 oShl (op2 oAnd (op2 oShr (fVar 1) (fVar 5)) (fC (.int 1))) (fVar 4))))
def F_pressed : FD := bodyD 3 6
    (gSeq (gSet 3 (fC (.int 0)))
      (gSeq (gFor (iE (fCall F_places_of [(fVar 0), (fVar 2)])) (.tp [4, 5]) B_pressed_1)
      (gRet (fVar 3))))
def B_steps_of_1 : SF :=
    (gSeq (gSet 5 (fz (fComp (iE (fVar 3)) (.tp [0, 1]) [none, none, some 0, some 1, some 2, some 3, some 4, some 5, some 6] (op2 oAnd (op2 oSub (fVar 1) (fVar 0)) (fVar 6)))))
      (gSeq (gSet 6 (fB oSum [(fCompI (iZ (fVar 3) (fVar 5)) (.tp [0, 1]) [none, none, some 0, some 1, some 2, some 3, some 4, some 5, some 6] (bB (op2 (oEq true) (fVar 1) (fC (.int 0)))) (op2 oShl (fC (.int 1)) (fVar 0)))]))
      (gSeq (gIf (bB (op2 (oEq true) (fVar 6) (fC (.int 0))))
      (gApp 2 (fTup [(fVar 6), (fVar 4)]))
      BF.gNil)
      (gSeq (gSet 3 (fz (fComp (iZ (fVar 3) (fVar 5)) (.tp [0, 1]) [none, none, some 0, some 1, some 2, some 3, some 4, some 5, some 6] (op2 oSub (fVar 0) (fVar 1)))))
      (gSet 4 (op2 oMul (fC (.int 2)) (fVar 4)))))))
def F_steps_of : FD := bodyD 2 7
    (gSeq (gSet 2 (fLst []))
      (gSeq (gSet 3 (fz (fCall F_places_of [(fVar 0), (fVar 1)])))
      (gSeq (gSet 4 (fC (.int 1)))
      (gSeq (gWhile (bB (op2 oLt (fVar 4) (fVar 0))) B_steps_of_1)
      (gRet (fVar 2))))))
def B_spread_rows_1 : SF :=
    (gSet 2 (fCat (fVar 2) (fCall F_moving [(fC (.str "up")), (op2 oShr (fIx (fVar 3) (fC (.int 0))) (fIx (fVar 3) (fC (.int 1)))), (fIx (fVar 3) (fC (.int 1))), (fB oLen [(fVar 2)])])))
def F_spread_rows : FD := bodyD 2 4
    (gSeq (gSet 2 (fLst [(fTup [(fC (.str "mask")), (fC (.int 0)), (fCall F_pressed [(fVar 0), (fVar 1), (fVar 1)])])]))
      (gSeq (gFor (iV (fCall F_steps_of [(fVar 0), (fVar 1)])) (.nm 3) B_spread_rows_1)
      (gRet (fVar 2))))
def B_law_1 : SF :=
    (gApp 2 (fCall F__law_word [(fIx (fVar 3) (fVar 4)), (fVar 4), (fVar 1)]))
def B_law_2 : SF :=
    (gSeq (gSet 5 (fz (fCall F__law_word [(op2 oAdd (fCall F__law_at [(fVar 0), (fC (.int 1))]) (op2 oMul (fB oSum [(fVar 3)]) (op2 oMod (fVar 4) (fC (.int 2))))), (op2 oAdd (fC (.int 90)) (fVar 4)), (fVar 1)])))
      (gSeq (gSet 6 (fCall F_spread_rows [(fVar 1), (fVar 5)]))
      (gSeq (gIf (bNot (bB (fCall F__law_holds [(fVar 6), (fVar 1), (fVar 5), (fVar 2)])))
      (gRet (fC (.bl false)))
      BF.gNil)
      (gSeq (gApp 6 (fTup [(fC (.str "fix")), (fC (.int 0))]))
      (gIf (bNot (bB (fCall F__law_holds [(fCall F_spread_rows [(fVar 1), (fVar 5)]), (fVar 1), (fVar 5), (fSl (fVar 2) pNo (pSome (op2 oAdd (fC (.int 1)) (op2 oDiv (fVar 1) (fC (.int 4))))))])))
      (gRet (fC (.bl false)))
      BF.gNil)))))
def F_law : FD := bodyD 1 7
    (gSeq (gSet 1 (fz (fCall F__law_width [(fCall F__law_at [(fVar 0), (fC (.int 0))])])))
      (gSeq (gSet 2 (fCat (fLst [(fC (.int 0))]) (fComp (iR (fVar 1)) (.nm 0) [none, some 0, some 1, some 2, some 3, some 5, some 6] (op2 oShl (fC (.int 1)) (fVar 0)))))
      (gSeq (gSet 3 (fz (fSl (fVar 0) (pSome (fC (.int 2))) (pSome (fC (.int 63))))))
      (gSeq (gFor (iR (fB oLen [(fVar 3)])) (.nm 4) B_law_1)
      (gFrz [2] (gSeq (gFor (iR (fC (.int 3))) (.nm 4) B_law_2)
      (gFrz [6] (gRet (fC (.bl true))))))))))
end
end LW
set_option Elab.async false
set_option linter.all false
set_option maxRecDepth 100000
set_option maxHeartbeats 4000000
namespace LW
open PySem L2 BF
set_option linter.unusedSimpArgs false
theorem str_tab :
  (oEq false (.str "fix") (.str "fix") = some (.bl true)) ∧
  (oEq false (.str "fix") (.str "mask") = some (.bl false)) ∧
  (oEq false (.str "fix") (.str "turn") = some (.bl false)) ∧
  (oEq false (.str "fix") (.str "both") = some (.bl false)) ∧
  (oEq false (.str "fix") (.str "up") = some (.bl false)) ∧
  (oEq false (.str "fix") (.str "down") = some (.bl false)) ∧
  (oEq false (.str "mask") (.str "fix") = some (.bl false)) ∧
  (oEq false (.str "mask") (.str "mask") = some (.bl true)) ∧
  (oEq false (.str "mask") (.str "turn") = some (.bl false)) ∧
  (oEq false (.str "mask") (.str "both") = some (.bl false)) ∧
  (oEq false (.str "mask") (.str "up") = some (.bl false)) ∧
  (oEq false (.str "mask") (.str "down") = some (.bl false)) ∧
  (oEq false (.str "turn") (.str "fix") = some (.bl false)) ∧
  (oEq false (.str "turn") (.str "mask") = some (.bl false)) ∧
  (oEq false (.str "turn") (.str "turn") = some (.bl true)) ∧
  (oEq false (.str "turn") (.str "both") = some (.bl false)) ∧
  (oEq false (.str "turn") (.str "up") = some (.bl false)) ∧
  (oEq false (.str "turn") (.str "down") = some (.bl false)) ∧
  (oEq false (.str "both") (.str "fix") = some (.bl false)) ∧
  (oEq false (.str "both") (.str "mask") = some (.bl false)) ∧
  (oEq false (.str "both") (.str "turn") = some (.bl false)) ∧
  (oEq false (.str "both") (.str "both") = some (.bl true)) ∧
  (oEq false (.str "both") (.str "up") = some (.bl false)) ∧
  (oEq false (.str "both") (.str "down") = some (.bl false)) ∧
  (oEq false (.str "up") (.str "fix") = some (.bl false)) ∧
  (oEq false (.str "up") (.str "mask") = some (.bl false)) ∧
  (oEq false (.str "up") (.str "turn") = some (.bl false)) ∧
  (oEq false (.str "up") (.str "both") = some (.bl false)) ∧
  (oEq false (.str "up") (.str "up") = some (.bl true)) ∧
  (oEq false (.str "up") (.str "down") = some (.bl false)) ∧
  (oEq false (.str "down") (.str "fix") = some (.bl false)) ∧
  (oEq false (.str "down") (.str "mask") = some (.bl false)) ∧
  (oEq false (.str "down") (.str "turn") = some (.bl false)) ∧
  (oEq false (.str "down") (.str "both") = some (.bl false)) ∧
  (oEq false (.str "down") (.str "up") = some (.bl false)) ∧
  (oEq false (.str "down") (.str "down") = some (.bl true)) := by
  refine ⟨?_, ?_, ?_, ?_, ?_, ?_, ?_, ?_, ?_, ?_, ?_, ?_, ?_, ?_, ?_, ?_, ?_, ?_, ?_, ?_, ?_, ?_, ?_, ?_, ?_, ?_, ?_, ?_, ?_, ?_, ?_, ?_, ?_, ?_, ?_, ?_⟩ <;> kernel_rfl
inductive Deed where
  | fix (m : Nat) | mask (a m : Nat) | turn (a m : Nat) | both (a b : Nat) | up (a n : Nat) | down (a n : Nat)
def enc : Deed → Dm
  | .fix m => .tup [.str "fix", .int m]
  | .mask a m => .tup [.str "mask", .int a, .int m]
  | .turn a m => .tup [.str "turn", .int a, .int m]
  | .both a b => .tup [.str "both", .int a, .int b]
  | .up a n => .tup [.str "up", .int a, .int n]
  | .down a n => .tup [.str "down", .int a, .int n]
def Good (w many : Nat) : Deed → Prop
  | .fix m => m < 2 ^ w
  | .mask a m => a < many ∧ m < 2 ^ w
  | .turn a m => a < many ∧ m < 2 ^ w
  | .both a b => a < many ∧ b < many
  | .up a n => a < many ∧ n ≤ w
  | .down a n => a < many ∧ n ≤ w
theorem okEq_int (i : Int) : okEq (.int i) = true := by simp [okEq, toPy, PySem.SeqAt.shaped, PyData.canLay0, PyData.depth]
theorem eqD_int (i j : Int) : eqD (.int i) (.int j) = (i == j) := by simp [eqD, toPy, PyData.eqv]
theorem oEq_int (neg : Bool) (i j : Int) : oEq neg (.int i) (.int j) = some (.bl (if neg then !(i == j) else i == j)) := by simp [oEq, okEq_int, eqD_int]
def GoodRow (w : Nat) (ds : List Deed) : Prop := ∀ i d, ds[i]? = some d → Good w (i + 1) d
theorem goodRow_snoc {w : Nat} {ds : List Deed} {d : Deed} (h : GoodRow w ds) (hd : Good w (ds.length + 1) d) : GoodRow w (ds ++ [d]) := fun i e he => by
  rcases Nat.lt_trichotomy i ds.length with hl | rfl | hg
  · rw [List.getElem?_append_left hl] at he; exact h i e he
  · rw [List.getElem?_append_right (Nat.le_refl _), Nat.sub_self] at he
    cases he
    exact hd
  · rw [List.getElem?_append_right (by omega)] at he
    obtain ⟨n, hn⟩ : ∃ n, i - ds.length = n + 1 := ⟨i - ds.length - 1, by omega⟩
    rw [hn] at he
    simp at he
def step (w : Nat) (vs : List Nat) : Deed → Nat
  | .fix m => m
  | .mask a m => vs.getD a 0 &&& m
  | .turn a m => vs.getD a 0 ^^^ m
  | .both a b => vs.getD a 0 ^^^ vs.getD b 0
  | .up a n => vs.getD a 0 * 2 ^ n % 2 ^ w
  | .down a n => vs.getD a 0 / 2 ^ n
def vals (w : Nat) : List Nat → List Deed → List Nat
  | vs, [] => vs
  | vs, d :: r => vals w (vs ++ [step w vs d]) r
def nats (vs : List Nat) : List Dm := vs.map fun (v : Nat) => Dm.int (v : Int)
theorem getD_lt {w : Nat} {vs : List Nat} (h : ∀ v ∈ vs, v < 2 ^ w) (a : Nat) : vs.getD a 0 < 2 ^ w := by
  rw [List.getD_eq_getElem?_getD]
  cases q : vs[a]? with
  | none => exact Nat.two_pow_pos w
  | some v => exact h v (List.mem_of_getElem? q)
theorem step_lt {w : Nat} {vs : List Nat} {d : Deed} (h : ∀ v ∈ vs, v < 2 ^ w) (g : Good w vs.length d) : step w vs d < 2 ^ w := by
  cases d with
  | fix m => exact g
  | mask a m => exact Nat.lt_of_le_of_lt Nat.and_le_right g.2
  | turn a m => exact Nat.xor_lt_two_pow (getD_lt h a) g.2
  | both a b => exact Nat.xor_lt_two_pow (getD_lt h a) (getD_lt h b)
  | up a n => exact Nat.mod_lt _ (Nat.two_pow_pos w)
  | down a n => exact Nat.lt_of_le_of_lt (Nat.div_le_self _ _) (getD_lt h a)
theorem at_nats {vs : List Nat} {a : Nat} (h : a < vs.length) : atI (nats vs) (a : Int) = some (.int (vs.getD a 0 : Nat)) := by
  refine atI_nat ?_
  unfold nats
  rw [List.getElem?_map, List.getD_eq_getElem?_getD, List.getElem?_eq_getElem h]
  rfl
theorem vals_len (w : Nat) : ∀ (ds : List Deed) (vs : List Nat), (vals w vs ds).length = vs.length + ds.length
  | [], vs => rfl
  | d :: ds, vs => by
    show (vals w (vs ++ [step w vs d]) ds).length = _
    rw [vals_len w ds, List.length_append, List.length_singleton, List.length_cons]; omega
theorem vals_lt (w : Nat) : ∀ (ds : List Deed) (vs : List Nat), (∀ v ∈ vs, v < 2 ^ w) → (∀ i d, ds[i]? = some d → Good w (vs.length + i) d) → ∀ v ∈ vals w vs ds, v < 2 ^ w
  | [], vs, hv, _ => hv
  | d :: ds, vs, hv, hg => by
    have hs := step_lt hv (show Good w vs.length d from hg 0 d rfl)
    refine vals_lt w ds (vs ++ [step w vs d]) (fun v h => (List.mem_append.mp h).elim (hv v) fun z => by rw [List.mem_singleton.mp z]; exact hs) fun i d' h => ?_
    have := hg (i + 1) d' h
    rw [List.length_append, List.length_singleton]
    rw [show vs.length + (i + 1) = vs.length + 1 + i by omega] at this
    exact this
theorem nats_last {vs : List Nat} (h : vs ≠ []) : atI (nats vs) (-1) = some (.int (vs.getLast h : Nat)) := by
  have e : nats vs = nats vs.dropLast ++ [.int (vs.getLast h : Nat)] := by
    have := congrArg nats (List.dropLast_concat_getLast h).symm
    rw [this]
    unfold nats
    rw [List.map_append]
    simp
  rw [e]
  exact atI_last _ _
theorem vals_ne (w : Nat) (ds : List Deed) (x : Nat) : vals w [x] ds ≠ [] := fun z => by
  have := vals_len w ds [x]
  rw [z] at this
  simp at this
  omega
theorem whole_ok (i : Int) : F__law_whole [.int i] = some (.sh (.bl true)) := by
  have h1 : isTy (.int i) "int" = true := rfl
  have h2 : isTy (.int i) "bool" = false := rfl
  simp [F__law_whole, bodyD, gRet, gSeq, gIf, gSet, gApp, BF.gNil, gFrz, frz, op2, dt, fVar, fC, evs, fTup, fLst, fCall, fB, fIx, ixD, fSl, slD, pNo, pSome, fz, own?, bB, bAnd, bOr, bNot, vAnd, vOr, vNot, fIsi, fList, fNeg, fCat, fRep, oAdd, oSub, oMul, oDiv, oMod, oPow, oShl, oShr, oAnd, oOr, oXor, oLt, oLe, oGt, oGe, oMin, oLen, oSum, h1, h2]
theorem okEq_rows (ds : List Deed) : okEq (.lst (ds.map enc)) = true := by
  refine okEq_lst fun d hd => ?_
  obtain ⟨dd, _, rfl⟩ := List.mem_map.mp hd
  have s1 : PyData.strOk "fix" = true := by decide +kernel
  have s2 : PyData.strOk "mask" = true := by decide +kernel
  have s3 : PyData.strOk "turn" = true := by decide +kernel
  have s4 : PyData.strOk "both" = true := by decide +kernel
  have s5 : PyData.strOk "up" = true := by decide +kernel
  have s6 : PyData.strOk "down" = true := by decide +kernel
  cases dd <;> simp [enc, toPy, toPys, PyData.canLay0, PyData.canLayAll0, PyData.depth, PyData.depthAll, s1, s2, s3, s4, s5, s6]
def raiseD (r : Nat) : Deed → Deed
  | .fix m => .fix m
  | .mask a m => .mask (a + r) m
  | .turn a m => .turn (a + r) m
  | .both a b => .both (a + r) (b + r)
  | .up a n => .up (a + r) n
  | .down a n => .down (a + r) n
theorem good_raise {w many r : Nat} {d : Deed} (g : Good w many d) : Good w (many + r) (raiseD r d) := by
  cases d <;> simp only [Good, raiseD] at g ⊢ <;> omega
theorem goodRow_behind {w : Nat} {ds es : List Deed} (h1 : GoodRow w ds) (h2 : GoodRow w es) : GoodRow w (ds ++ es.map (raiseD ds.length)) := fun i d h => by
  by_cases hi : i < ds.length
  · rw [List.getElem?_append_left hi] at h; exact h1 i d h
  · rw [List.getElem?_append_right (by omega), List.getElem?_map] at h
    obtain ⟨e, he, rfl⟩ := Option.map_eq_some_iff.mp h
    have := good_raise (r := ds.length) (h2 _ e he)
    rw [show i - ds.length + 1 + ds.length = i + 1 by omega] at this
    exact this
theorem getD_raise (P vs : List Nat) (a : Nat) : (P ++ vs).getD (a + P.length) 0 = vs.getD a 0 := by
  rw [List.getD_eq_getElem?_getD, List.getD_eq_getElem?_getD, List.getElem?_append_right (by omega), show a + P.length - P.length = a by omega]
theorem step_raise (w : Nat) (P vs : List Nat) (d : Deed) : step w (P ++ vs) (raiseD P.length d) = step w vs d := by
  cases d <;> simp only [step, raiseD, getD_raise]
theorem vals_raise (w : Nat) (P : List Nat) : ∀ (es : List Deed) (vs : List Nat), vals w (P ++ vs) (es.map (raiseD P.length)) = P ++ vals w vs es
  | [], vs => rfl
  | d :: es, vs => by
    show vals w (P ++ vs ++ [step w (P ++ vs) (raiseD P.length d)]) (es.map (raiseD P.length)) = P ++ vals w (vs ++ [step w vs d]) es
    rw [step_raise, List.append_assoc, vals_raise w P es]
theorem vals_app (w : Nat) : ∀ (ds es : List Deed) (vs : List Nat), vals w vs (ds ++ es) = vals w (vals w vs ds) es
  | [], es, vs => rfl
  | d :: ds, es, vs => vals_app w ds es (vs ++ [step w vs d])
def lastV (w : Nat) (ds : List Deed) (x : Nat) : Nat := (vals w [x] ds).getLast (vals_ne w ds x)
theorem last_behind (w : Nat) (ds es : List Deed) (x : Nat) : lastV w (ds ++ es.map (raiseD ds.length)) x = lastV w es (lastV w ds x) := by
  have hl := vals_len w ds [x]
  have e : vals w [x] (ds ++ es.map (raiseD ds.length)) = (vals w [x] ds).dropLast ++ vals w [lastV w ds x] es := by
    rw [vals_app]
    have hP : ((vals w [x] ds).dropLast).length = ds.length := by rw [List.length_dropLast, hl]; simp
    have := vals_raise w (vals w [x] ds).dropLast es [lastV w ds x]
    rw [hP] at this
    rw [← this]
    congr 1
    exact (List.dropLast_concat_getLast (vals_ne w ds x)).symm
  unfold lastV
  simp only [e]
  rw [List.getLast_append_of_ne_nil _ (vals_ne w es _)]
  rfl
theorem lastV_lt (w : Nat) (ds : List Deed) (x : Nat) (hx : x < 2 ^ w) (hg : GoodRow w ds) : lastV w ds x < 2 ^ w := by
  refine vals_lt w ds [x] (fun v h => by rw [List.mem_singleton.mp h]; exact hx) (fun i d h => by have := hg i d h; rw [List.length_singleton, Nat.add_comm 1 i]; exact this) _ (List.getLast_mem (vals_ne w ds x))
def nameOf : Deed → Str
  | .fix _ => "fix"
  | .mask _ _ => "mask"
  | .turn _ _ => "turn"
  | .both _ _ => "both"
  | .up _ _ => "up"
  | .down _ _ => "down"
def numsOf : Deed → List Nat
  | .fix m => [m]
  | .mask a m => [a, m]
  | .turn a m => [a, m]
  | .both a b => [a, b]
  | .up a n => [a, n]
  | .down a n => [a, n]
theorem enc_eq (d : Deed) : enc d = .tup (.str (nameOf d) :: nats (numsOf d)) := by cases d <;> rfl
/-! ### the draws of the second family of laws -/
theorem at_ok (ns : List Int) (k : Nat) : F__law_at [.lst (ns.map .int), .int k] = some (.sh (.int (ns.getD k 0))) := by
  have hl : ∀ {δ : List Sl}, δ[0]? = some (.sh (.lst (ns.map .int))) → fB oLen [fVar 0] δ = some (.sh (.int ns.length)) := fun {δ} h => fB_of (rs := [.sh (.lst (ns.map .int))]) (evs_cons (r := .sh (.lst (ns.map .int))) (by unfold fVar; rw [h]) evs_nil) (by simp [oLen])
  by_cases h : k < ns.length
  · refine body_rt (r := (Rs.sh (.int (ns.getD k 0))).out) (δ := [.sh (.lst (ns.map .int)), .sh (.int k)]) rfl rfl (seq_rt (if_t (bB_of (dt_of (op2_of (a := .int k) (b := .int ns.length) (d := .bl true) (dt_of rfl) (dt_of (hl rfl)) (by simp [oLt]; omega)))) (ret_of (ix_of (a := .lst (ns.map .int)) (i := (k : Int)) (dt_of rfl) (dt_of rfl) (atI_nat ?_)))))
    rw [List.getElem?_map, List.getD_eq_getElem?_getD, List.getElem?_eq_getElem h]
    rfl
  · refine body_rt (r := (Rs.sh (.int (ns.getD k 0))).out) (δ := [.sh (.lst (ns.map .int)), .sh (.int k)]) rfl rfl (seq_nx (if_f (bB_of (dt_of (op2_of (a := .int k) (b := .int ns.length) (d := .bl false) (dt_of rfl) (dt_of (hl rfl)) (by simp [oLt]; omega)))) nil_nx) (ret_of ?_))
    rw [List.getD_eq_getElem?_getD, List.getElem?_eq_none (by omega)]
    rfl
theorem mixed2_ok (c : Int) (k : Nat) (hk : k ≤ 100000) : ∃ m : Nat, F__law_mixed [.int c, .int k] = some (.sh (.int m)) ∧ m < 2 ^ 31 := by
  by_cases h : 10000000000000000000000000000000000000000 ≤ c
  · have h3 : powOk 1 (31 * ((k : Int) % 60)) = true := powOk_one (by omega) (by omega)
    have h5 := pow2_pos (31 * ((k : Int) % 60)).toNat
    have h6 : divOk ((2 : Int) ^ (31 * ((k : Int) % 60)).toNat) = true := divOk_pow (by omega)
    have e : F__law_mixed [.int c, .int k] = some (.sh (.int ((c - 10000000000000000000000000000000000000000) / 2 ^ (31 * ((k : Int) % 60)).toNat % 2147483648))) :=
      body_rt rfl rfl (seq_rt (if_t (by simp [bodyD, gRet, gSeq, gIf, gSet, gApp, BF.gNil, gFrz, frz, op2, dt, fVar, fC, evs, fTup, fLst, fCall, fB, fIx, ixD, fSl, slD, pNo, pSome, fz, own?, bB, bAnd, bOr, bNot, vAnd, vOr, vNot, fIsi, fList, fNeg, fCat, fRep, oAdd, oSub, oMul, oDiv, oMod, oPow, oShl, oShr, oAnd, oOr, oXor, oLt, oLe, oGt, oGe, oMin, oLen, oSum, h]) (by simp [bodyD, gRet, gSeq, gIf, gSet, gApp, BF.gNil, gFrz, frz, op2, dt, fVar, fC, evs, fTup, fLst, fCall, fB, fIx, ixD, fSl, slD, pNo, pSome, fz, own?, bB, bAnd, bOr, bNot, vAnd, vOr, vNot, fIsi, fList, fNeg, fCat, fRep, oAdd, oSub, oMul, oDiv, oMod, oPow, oShl, oShr, oAnd, oOr, oXor, oLt, oLe, oGt, oGe, oMin, oLen, oSum, h3, h5, h6])))
    obtain ⟨m, hm⟩ := Int.eq_ofNat_of_zero_le (Int.emod_nonneg ((c - 10000000000000000000000000000000000000000) / 2 ^ (31 * ((k : Int) % 60)).toNat) (show (2147483648 : Int) ≠ 0 by decide))
    have h8 := Int.emod_lt_of_pos ((c - 10000000000000000000000000000000000000000) / 2 ^ (31 * ((k : Int) % 60)).toNat) (show (0 : Int) < 2147483648 by decide)
    rw [hm] at e h8
    exact ⟨m, e, by omega⟩
  · have e : ∃ n : Int, F__law_mixed [.int c, .int k] = some (.sh (.int (n % 2147483587))) := by
      have g1 := Int.emod_nonneg (c * 1103515245 + 7919 * k * k + k) (show (2147483647 : Int) ≠ 0 by decide)
      have g2 := Int.emod_lt_of_pos (c * 1103515245 + 7919 * k * k + k) (show (0 : Int) < 2147483647 by decide)
      have m1 : mulOk (7919 * (k : Int)) (k : Int) = true := mulOk_right (by omega) (by omega)
      generalize hn : (c * 1103515245 + 7919 * k * k + k) % 2147483647 = n at g1 g2
      have m2 : mulOk n n = true := mulOk_right (by omega) (by omega)
      refine ⟨n * n % 2147483629 * 69621, body_rt rfl rfl (seq_nx (if_f (by simp [bodyD, gRet, gSeq, gIf, gSet, gApp, BF.gNil, gFrz, frz, op2, dt, fVar, fC, evs, fTup, fLst, fCall, fB, fIx, ixD, fSl, slD, pNo, pSome, fz, own?, bB, bAnd, bOr, bNot, vAnd, vOr, vNot, fIsi, fList, fNeg, fCat, fRep, oAdd, oSub, oMul, oDiv, oMod, oPow, oShl, oShr, oAnd, oOr, oXor, oLt, oLe, oGt, oGe, oMin, oLen, oSum]; omega) nil_nx) (seq_nx (set_sh (d := .int n) (by simp [bodyD, gRet, gSeq, gIf, gSet, gApp, BF.gNil, gFrz, frz, op2, dt, fVar, fC, evs, fTup, fLst, fCall, fB, fIx, ixD, fSl, slD, pNo, pSome, fz, own?, bB, bAnd, bOr, bNot, vAnd, vOr, vNot, fIsi, fList, fNeg, fCat, fRep, oAdd, oSub, oMul, oDiv, oMod, oPow, oShl, oShr, oAnd, oOr, oXor, oLt, oLe, oGt, oGe, oMin, oLen, oSum, m1, hn])) (seq_nx (set_sh (d := .int (n * n % 2147483629)) (by simp [bodyD, gRet, gSeq, gIf, gSet, gApp, BF.gNil, gFrz, frz, op2, dt, fVar, fC, evs, fTup, fLst, fCall, fB, fIx, ixD, fSl, slD, pNo, pSome, fz, own?, bB, bAnd, bOr, bNot, vAnd, vOr, vNot, fIsi, fList, fNeg, fCat, fRep, oAdd, oSub, oMul, oDiv, oMod, oPow, oShl, oShr, oAnd, oOr, oXor, oLt, oLe, oGt, oGe, oMin, oLen, oSum, m2])) (by simp [bodyD, gRet, gSeq, gIf, gSet, gApp, BF.gNil, gFrz, frz, op2, dt, fVar, fC, evs, fTup, fLst, fCall, fB, fIx, ixD, fSl, slD, pNo, pSome, fz, own?, bB, bAnd, bOr, bNot, vAnd, vOr, vNot, fIsi, fList, fNeg, fCat, fRep, oAdd, oSub, oMul, oDiv, oMod, oPow, oShl, oShr, oAnd, oOr, oXor, oLt, oLe, oGt, oGe, oMin, oLen, oSum]))))⟩
    obtain ⟨n, e⟩ := e
    obtain ⟨m, hm⟩ := Int.eq_ofNat_of_zero_le (Int.emod_nonneg n (show (2147483587 : Int) ≠ 0 by decide))
    have h8 := Int.emod_lt_of_pos n (show (0 : Int) < 2147483587 by decide)
    rw [hm] at e h8
    exact ⟨m, e, by omega⟩
def Wid (w : Nat) : Prop := w = 1 ∨ w = 2 ∨ w = 4 ∨ w = 8 ∨ w = 16 ∨ w = 32 ∨ w = 64
theorem Wid.le {w : Nat} (h : Wid w) : 1 ≤ w ∧ w ≤ 64 := by unfold Wid at h; omega
theorem width2_ok (c : Int) : ∃ w : Nat, Wid w ∧ F__law_width [.int c] = some (.sh (.int w)) := by
  have key : ∀ i : Int, 0 ≤ i → i < 11 → ∃ w : Nat, Wid w ∧ atI [Dm.int 1, .int 2, .int 4, .int 8, .int 16, .int 32, .int 64, .int 8, .int 16, .int 4, .int 32] i = some (.int (w : Int)) := fun i h0 h1 => by
    rcases (show i = 0 ∨ i = 1 ∨ i = 2 ∨ i = 3 ∨ i = 4 ∨ i = 5 ∨ i = 6 ∨ i = 7 ∨ i = 8 ∨ i = 9 ∨ i = 10 by omega) with rfl | rfl | rfl | rfl | rfl | rfl | rfl | rfl | rfl | rfl | rfl
    · exact ⟨1, by unfold Wid; omega, rfl⟩
    · exact ⟨2, by unfold Wid; omega, rfl⟩
    · exact ⟨4, by unfold Wid; omega, rfl⟩
    · exact ⟨8, by unfold Wid; omega, rfl⟩
    · exact ⟨16, by unfold Wid; omega, rfl⟩
    · exact ⟨32, by unfold Wid; omega, rfl⟩
    · exact ⟨64, by unfold Wid; omega, rfl⟩
    · exact ⟨8, by unfold Wid; omega, rfl⟩
    · exact ⟨16, by unfold Wid; omega, rfl⟩
    · exact ⟨4, by unfold Wid; omega, rfl⟩
    · exact ⟨32, by unfold Wid; omega, rfl⟩
  obtain ⟨w, hw, e⟩ := key (c % 11) (by omega) (by omega)
  refine ⟨w, hw, body_rt (r := (Rs.sh (.int w)).out) (δ := [.sh (.int c)]) rfl rfl (ret_of (ix_of (a := .lst [Dm.int 1, .int 2, .int 4, .int 8, .int 16, .int 32, .int 64, .int 8, .int 16, .int 4, .int 32]) (i := c % 11) (dt_of (lst_of (rs := [.sh (Dm.int 1), .sh (.int 2), .sh (.int 4), .sh (.int 8), .sh (.int 16), .sh (.int 32), .sh (.int 64), .sh (.int 8), .sh (.int 16), .sh (.int 4), .sh (.int 32)]) rfl rfl (by rw [line24]; simp))) (dt_of (op2_of (d := .int (c % 11)) (dt_of rfl) (dt_of rfl) (by simp [oMod]))) e))⟩
theorem word2_ok (c : Int) (k w : Nat) (hk : k ≤ 1000) (h1 : 1 ≤ w) (h2 : w ≤ 64) : ∃ x : Nat, x < 2 ^ w ∧ F__law_word [.int c, .int k, .int w] = some (.sh (.int x)) := by
  obtain ⟨a, ea, la⟩ := mixed2_ok c k (by omega)
  obtain ⟨b, eb, lb⟩ := mixed2_ok c (k + 101) (by omega)
  obtain ⟨d, ed, ld⟩ := mixed2_ok c (k + 211) (by omega)
  have q : ∀ n : Nat, ∃ x : Int, atI [Dm.int ((n : Int) / 8), .int ((n : Int) / 8), .int 0, .int (-1), .int ((n : Int) / 8 % 16), .int (-2 - (n : Int) / 8 % 16), .int (2 ^ ((n : Int) / 8 % w).toNat), .int c] ((n : Int) % 8) = some (.int x) := fun n => by
    have := Int.emod_nonneg (n : Int) (show (8 : Int) ≠ 0 by decide)
    have := Int.emod_lt_of_pos (n : Int) (show (0 : Int) < 8 by decide)
    rcases (show (n : Int) % 8 = 0 ∨ (n : Int) % 8 = 1 ∨ (n : Int) % 8 = 2 ∨ (n : Int) % 8 = 3 ∨ (n : Int) % 8 = 4 ∨ (n : Int) % 8 = 5 ∨ (n : Int) % 8 = 6 ∨ (n : Int) % 8 = 7 by omega) with e | e | e | e | e | e | e | e <;> rw [e]
    · exact ⟨_, atI_nat (j := 0) rfl⟩
    · exact ⟨_, atI_nat (j := 1) rfl⟩
    · exact ⟨_, atI_nat (j := 2) rfl⟩
    · exact ⟨_, atI_nat (j := 3) rfl⟩
    · exact ⟨_, atI_nat (j := 4) rfl⟩
    · exact ⟨_, atI_nat (j := 5) rfl⟩
    · exact ⟨_, atI_nat (j := 6) rfl⟩
    · exact ⟨_, atI_nat (j := 7) rfl⟩
  obtain ⟨y, ey⟩ := q ((a * 2147483629 + b) * 2147483587 + d)
  obtain ⟨x, hx⟩ := Int.eq_ofNat_of_zero_le (Int.emod_nonneg y (Int.ne_of_gt (pow2_pos w)))
  have hx2 := Int.emod_lt_of_pos y (pow2_pos w)
  rw [hx] at hx2
  refine ⟨x, by exact_mod_cast hx2, ?_⟩
  generalize hn : (a * 2147483629 + b) * 2147483587 + d = n at ey
  have hn' : ((a : Int) * 2147483629 + b) * 2147483587 + d = n := by rw [← hn, Int.natCast_add, Int.natCast_mul, Int.natCast_add, Int.natCast_mul]; rfl
  have p1 : posOk (w : Int) = true := posOk_of (by omega)
  have g0 := Int.emod_nonneg ((n : Int) / 8) (show (w : Int) ≠ 0 by omega)
  have g1 := Int.emod_lt_of_pos ((n : Int) / 8) (show (0 : Int) < w by omega)
  have p2 : powOk 1 ((n : Int) / 8 % w) = true := powOk_one (by omega) (by omega)
  have p3 : powOk 1 (w : Int) = true := powOk_one (by omega) (by omega)
  have p4 : posOk ((2 : Int) ^ w) = true := posOk_of (pow2_pos w)
  have big : (a : Int) * 2147483629 + b < 2 ^ 64 := by omega
  have m3 : mulOk ((a : Int) * 2147483629 + b) 2147483587 = true := mulOk_right (by omega) (by omega)
  refine body_rt (r := (Rs.sh (.int x)).out) (δ := [.sh (.int c), .sh (.int k), .sh (.int w), .un, .un]) rfl rfl (seq_nx (set_sh (d := .int ((a : Int) * 2147483629 + b)) ?_) (seq_nx (set_sh (d := .int n) ?_) (seq_nx (set_fz (r := .ow [Dm.int ((n : Int) / 8), .int ((n : Int) / 8), .int 0, .int (-1), .int ((n : Int) / 8 % 16), .int (-2 - (n : Int) / 8 % 16)]) ?_ rfl) (seq_nx (set_fz (r := .ow [Dm.int ((n : Int) / 8), .int ((n : Int) / 8), .int 0, .int (-1), .int ((n : Int) / 8 % 16), .int (-2 - (n : Int) / 8 % 16), .int (2 ^ ((n : Int) / 8 % w).toNat), .int c]) ?_ rfl) (seq_nx (set_fz (r := .sh (.int y)) (ix_of (a := .lst [Dm.int ((n : Int) / 8), .int ((n : Int) / 8), .int 0, .int (-1), .int ((n : Int) / 8 % 16), .int (-2 - (n : Int) / 8 % 16), .int (2 ^ ((n : Int) / 8 % w).toNat), .int c]) (i := (n : Int) % 8) (dt_of rfl) (dt_of (op2_of (d := .int ((n : Int) % 8)) (dt_of rfl) (dt_of rfl) (by simp [oMod]))) ey) rfl) (ret_of ?_))))))
  · refine op2_of (a := .int ((a : Int) * 2147483629)) (b := .int b) (dt_of (op2_of (d := .int ((a : Int) * 2147483629)) (dt_of (call_of (rs := [.sh (.int c), .sh (.int k)]) rfl ea rfl)) (dt_of rfl) (by simp [oMul]))) (dt_of (call_of (rs := [.sh (.int c), .sh (.int (k + 101 : Nat))]) (evs_cons (r := .sh (.int c)) rfl (evs_cons (r := .sh (.int (k + 101 : Nat))) (op2_of (dt_of rfl) (dt_of rfl) (by simp [oAdd])) evs_nil)) eb rfl)) (by simp [oAdd])
  · refine op2_of (a := .int (((a : Int) * 2147483629 + b) * 2147483587)) (b := .int d) (dt_of (op2_of (d := .int (((a : Int) * 2147483629 + b) * 2147483587)) (dt_of rfl) (dt_of rfl) (by simp [oMul, m3]))) (dt_of (call_of (rs := [.sh (.int c), .sh (.int (k + 211 : Nat))]) (evs_cons (r := .sh (.int c)) rfl (evs_cons (r := .sh (.int (k + 211 : Nat))) (op2_of (dt_of rfl) (dt_of rfl) (by simp [oAdd])) evs_nil)) ed rfl)) (by simp [oAdd, hn'])
  · simp [bodyD, gRet, gSeq, gIf, gSet, gApp, BF.gNil, gFrz, frz, op2, dt, fVar, fC, evs, fTup, fLst, fCall, fB, fIx, ixD, fSl, slD, pNo, pSome, fz, own?, bB, bAnd, bOr, bNot, vAnd, vOr, vNot, fIsi, fList, fNeg, fCat, fRep, oAdd, oSub, oMul, oDiv, oMod, oPow, oShl, oShr, oAnd, oOr, oXor, oLt, oLe, oGt, oGe, oMin, oLen, oSum, line24]
  · simp [bodyD, gRet, gSeq, gIf, gSet, gApp, BF.gNil, gFrz, frz, op2, dt, fVar, fC, evs, fTup, fLst, fCall, fB, fIx, ixD, fSl, slD, pNo, pSome, fz, own?, bB, bAnd, bOr, bNot, vAnd, vOr, vNot, fIsi, fList, fNeg, fCat, fRep, oAdd, oSub, oMul, oDiv, oMod, oPow, oShl, oShr, oAnd, oOr, oXor, oLt, oLe, oGt, oGe, oMin, oLen, oSum, line24, p1, p2]
  · refine op2_of (a := .int y) (b := .int (2 ^ w)) (dt_of rfl) (dt_of (op2_of (d := .int (2 ^ w)) (dt_of rfl) (dt_of rfl) (by simp [oShl, p3]))) (by simp [oMod, p4, hx])
def placesF : Nat → Nat → Nat → List Nat
  | 0, _, _ => []
  | f + 1, k, m => if m = 0 then [] else if m % 2 = 1 then k :: placesF f (k + 1) (m / 2) else placesF f (k + 1) (m / 2)
theorem places_loop : ∀ (f : Nat) (m k : Nat) (acc : List Nat), m < 2 ^ f → acc.length + f ≤ 1000 → k + f ≤ 1000 →
    ∃ k', whileN (bB (op2 oGt (fVar 0) (fC (.int 0)))) B__law_places_1 (f + 1) [.sh (.int m), .ow (nats acc), .sh (.int k)] = some (.nx [.sh (.int 0), .ow (nats (acc ++ placesF f k m)), .sh (.int k')])
  | 0, m, k, acc, hm, _, _ => by
    have h0 : m = 0 := by simp at hm; exact hm
    subst h0
    refine ⟨k, ?_⟩
    show ((bB (op2 oGt (fVar 0) (fC (.int 0)))) _).bind _ = _
    rw [bB_of (b := false) (dt_of (op2_of (a := .int ((0 : Nat) : Int)) (b := .int 0) (d := .bl false) (dt_of rfl) (dt_of rfl) (by simp [oGt])))]
    simp [placesF]
  | f + 1, m, k, acc, hm, hl, hk => by
    by_cases h0 : m = 0
    · subst h0
      refine ⟨k, ?_⟩
      show ((bB (op2 oGt (fVar 0) (fC (.int 0)))) _).bind _ = _
      rw [bB_of (b := false) (dt_of (op2_of (a := .int ((0 : Nat) : Int)) (b := .int 0) (d := .bl false) (dt_of rfl) (dt_of rfl) (by simp [oGt])))]
      simp [placesF]
    · have hm2 : m / 2 < 2 ^ f := by rw [Nat.pow_succ] at hm; omega
      have ed : (m : Int) / 2 = ((m / 2 : Nat) : Int) := by push_cast; rfl
      have em : (m : Int) % 2 = ((m % 2 : Nat) : Int) := by push_cast; rfl
      have tail : ∀ A : List Dm, (gSeq (gSet 0 (op2 oDiv (fVar 0) (fC (.int 2)))) (gSet 2 (op2 oAdd (fVar 2) (fC (.int 1))))) [.sh (.int m), .ow A, .sh (.int k)] = some (.nx [.sh (.int (m / 2 : Nat)), .ow A, .sh (.int (k + 1 : Nat))]) := fun A => seq_nx (set_sh (d := .int (m / 2 : Nat)) (op2_of (dt_of rfl) (dt_of rfl) (by simp [oDiv]))) (set_sh (d := .int (k + 1 : Nat)) (op2_of (dt_of rfl) (dt_of rfl) (by simp [oAdd])))
      have go : ∀ (acc' : List Nat), acc'.length + f ≤ 1000 → B__law_places_1 [.sh (.int m), .ow (nats acc), .sh (.int k)] = some (.nx [.sh (.int (m / 2 : Nat)), .ow (nats acc'), .sh (.int (k + 1 : Nat))]) → acc ++ placesF (f + 1) k m = acc' ++ placesF f (k + 1) (m / 2) →
          ∃ k', whileN (bB (op2 oGt (fVar 0) (fC (.int 0)))) B__law_places_1 (f + 1 + 1) [.sh (.int m), .ow (nats acc), .sh (.int k)] = some (.nx [.sh (.int 0), .ow (nats (acc ++ placesF (f + 1) k m)), .sh (.int k')]) := fun acc' hl' hb he => by
        obtain ⟨k', e⟩ := places_loop f (m / 2) (k + 1) acc' hm2 hl' (by omega)
        refine ⟨k', ?_⟩
        show ((bB (op2 oGt (fVar 0) (fC (.int 0)))) _).bind _ = _
        rw [bB_of (b := true) (dt_of (op2_of (a := .int (m : Int)) (b := .int 0) (d := .bl true) (dt_of rfl) (dt_of rfl) (by simp [oGt]; omega))), Option.bind_some, if_pos rfl, hb, he]
        exact e
      by_cases hodd : m % 2 = 1
      · refine go (acc ++ [k]) (by rw [List.length_append, List.length_singleton]; omega) (seq_nx (δ' := [.sh (.int m), .ow (nats (acc ++ [k])), .sh (.int k)]) (if_t (bB_of (b := true) (dt_of (op2_of (a := .int (m % 2 : Nat)) (b := .int 1) (dt_of (op2_of (d := .int (m % 2 : Nat)) (dt_of rfl) (dt_of rfl) (by simp [oMod]))) (dt_of rfl) (oEq_int false _ _)) (by simp [hodd, Rs.dat]))) ?_) (tail _)) (by rw [placesF, if_neg h0, if_pos hodd, List.append_assoc]; rfl)
        have e := app_of (i := 1) (f := fVar 2) (δ := [.sh (.int m), .ow (nats acc), .sh (.int k)]) (ds := nats acc) (r := .sh (.int k)) rfl rfl rfl (by unfold nats; rw [List.length_map, line24]; omega)
        rw [e]
        unfold nats
        simp
      · refine go acc (by omega) (seq_nx (δ' := [.sh (.int m), .ow (nats acc), .sh (.int k)]) (if_f (bB_of (b := false) (dt_of (op2_of (a := .int (m % 2 : Nat)) (b := .int 1) (dt_of (op2_of (d := .int (m % 2 : Nat)) (dt_of rfl) (dt_of rfl) (by simp [oMod]))) (dt_of rfl) (oEq_int false _ _)) (by simp [Rs.dat]; omega))) nil_nx) (tail _)) (by rw [placesF, if_neg h0, if_neg hodd])
def placesN (m : Nat) : List Nat := placesF 64 0 m
theorem places2_ok (m : Nat) (hm : m < 2 ^ 64) : F__law_places [.int m] = some (.ow (nats (placesN m))) := by
  obtain ⟨k', e⟩ := places_loop 64 m 0 [] hm (by simp) (by simp)
  exact body_rt (r := (Rs.al 1 (nats (placesN m))).out) (δ := [.sh (.int m), .un, .un]) rfl rfl (seq_nx (set_ow (d := []) rfl) (seq_nx (set_sh (d := .int 0) rfl) (seq_nx (δ' := [.sh (.int 0), .ow (nats (placesN m)), .sh (.int k')]) (gWhile_of e) (ret_of rfl))))
theorem placesF_lt : ∀ (f k m p : Nat), m < 2 ^ f → p ∈ placesF f k m → k ≤ p ∧ p < k + f
  | 0, _, _, _, _, h => by simp [placesF] at h
  | f + 1, k, m, p, hm, h => by
    have hm2 : m / 2 < 2 ^ f := by rw [Nat.pow_succ] at hm; omega
    rw [placesF] at h
    split at h
    · simp at h
    · split at h
      · rcases List.mem_cons.mp h with rfl | h
        · omega
        · have := placesF_lt f (k + 1) (m / 2) p hm2 h; omega
      · have := placesF_lt f (k + 1) (m / 2) p hm2 h; omega
theorem placesF_len : ∀ (f k m : Nat), (placesF f k m).length ≤ f
  | 0, _, _ => by simp [placesF]
  | f + 1, k, m => by
    rw [placesF]
    have := placesF_len f (k + 1) (m / 2)
    split
    · simp
    · split
      · simp; omega
      · omega
def pressL (x : Nat) : List Nat → Nat → Nat
  | [], _ => 0
  | p :: ps, j => x / 2 ^ p % 2 * 2 ^ j + pressL x ps (j + 1)
def spreadL (x : Nat) : List Nat → Nat → Nat
  | [], _ => 0
  | p :: ps, j => x / 2 ^ j % 2 * 2 ^ p + spreadL x ps (j + 1)
theorem bit_expr (x p j : Nat) (hp : p < 1000) (hj : j < 1000) {δ : List Sl} {fx fp fj : EF} (h1 : dt fx δ = some (.int x)) (h2 : dt fp δ = some (.int p)) (h3 : dt fj δ = some (.int j)) :
    op2 oMul (op2 oMod (op2 oDiv fx (op2 oShl (fC (.int 1)) fp)) (fC (.int 2))) (op2 oShl (fC (.int 1)) fj) δ = some (.sh (.int (x / 2 ^ p % 2 * 2 ^ j : Nat))) := by
  have p1 : powOk 1 (p : Int) = true := powOk_one (by omega) (by omega)
  have p2 : powOk 1 (j : Int) = true := powOk_one (by omega) (by omega)
  have p3 : divOk ((2 : Int) ^ p) = true := divOk_pow (by omega)
  have e1 : (x : Int) / 2 ^ p % 2 = ((x / 2 ^ p % 2 : Nat) : Int) := by push_cast; rfl
  have m1 : mulOk ((x : Int) / 2 ^ p % 2) (2 ^ j) = true := mulOk_left (by omega) (by omega)
  refine op2_of (a := .int ((x : Int) / 2 ^ p % 2)) (b := .int (2 ^ j)) (dt_of (op2_of (d := .int ((x : Int) / 2 ^ p % 2)) (dt_of (op2_of (d := .int ((x : Int) / 2 ^ p)) h1 (dt_of (op2_of (d := .int (2 ^ p)) (dt_of rfl) h2 (by simp [oShl, p1]))) (by simp [oDiv, p3]))) (dt_of rfl) (by simp [oMod]))) (dt_of (op2_of (d := .int (2 ^ j)) (dt_of rfl) h3 (by simp [oShl, p2]))) ?_
  simp [oMul, m1]
theorem spread_loop (x : Nat) (M : Sl) : ∀ (ps : List Nat) (t j : Nat) (s4 : Sl), (∀ p ∈ ps, p < 1000) → j + ps.length ≤ 1000 →
    ∃ j' t4, loopD (.nm 4) B__law_spread_1 (nats ps) [.sh (.int x), M, .sh (.int t), .sh (.int j), s4] = some (.nx [.sh (.int x), M, .sh (.int (t + spreadL x ps j : Nat)), .sh (.int j'), t4])
  | [], t, j, s4, _, _ => ⟨j, s4, rfl⟩
  | p :: ps, t, j, s4, hp, hj => by
    rw [List.length_cons] at hj
    obtain ⟨j', t4, e⟩ := spread_loop x M ps (t + x / 2 ^ j % 2 * 2 ^ p) (j + 1) (.sh (.int p)) (fun q hq => hp q (List.mem_cons_of_mem _ hq)) (by omega)
    refine ⟨j', t4, loop_cons (δ1 := [.sh (.int x), M, .sh (.int t), .sh (.int j), .sh (.int p)]) rfl (seq_nx (set_sh (d := .int (t + x / 2 ^ j % 2 * 2 ^ p : Nat)) (op2_of (a := .int t) (b := .int (x / 2 ^ j % 2 * 2 ^ p : Nat)) (dt_of rfl) (dt_of (bit_expr x j p (by omega) (hp p List.mem_cons_self) (dt_of rfl) (dt_of rfl) (dt_of rfl))) (by simp [oAdd]))) (set_sh (d := .int (j + 1 : Nat)) (op2_of (dt_of rfl) (dt_of rfl) (by simp [oAdd])))) ?_⟩
    rw [show t + spreadL x (p :: ps) j = t + x / 2 ^ j % 2 * 2 ^ p + spreadL x ps (j + 1) by rw [spreadL]; omega]
    exact e
theorem spread_law (x m : Nat) (hm : m < 2 ^ 64) : F__law_spread [.int x, .int m] = some (.sh (.int (spreadL x (placesN m) 0 : Nat))) := by
  have hl := placesF_len 64 0 m
  obtain ⟨j', t4, e⟩ := spread_loop x (.sh (.int m)) (placesN m) 0 0 .un (fun p hp => by have := placesF_lt 64 0 m p hm hp; omega) (by unfold placesN; omega)
  rw [Nat.zero_add] at e
  exact body_rt (r := (Rs.sh (.int (spreadL x (placesN m) 0 : Nat))).out) (δ := [.sh (.int x), .sh (.int m), .un, .un, .un]) rfl rfl (seq_nx (set_sh (d := .int (0 : Nat)) rfl) (seq_nx (set_sh (d := .int (0 : Nat)) rfl) (seq_nx (for_of (iL_of (call_of (r := .ow (nats (placesN m))) (rs := [.sh (.int m)]) rfl (places2_ok m hm) rfl) rfl) e) (ret_of rfl))))
def pressM : Nat → Nat → Nat → Nat
  | 0, _, _ => 0
  | f + 1, m, x => if m % 2 = 1 then x % 2 + 2 * pressM f (m / 2) (x / 2) else pressM f (m / 2) (x / 2)
def spreadM : Nat → Nat → Nat → Nat
  | 0, _, _ => 0
  | f + 1, m, x => if m % 2 = 1 then x % 2 + 2 * spreadM f (m / 2) (x / 2) else 2 * spreadM f (m / 2) x
def pop : Nat → Nat → Nat
  | 0, _ => 0
  | f + 1, m => m % 2 + pop f (m / 2)
theorem pressM_zero : ∀ (f x : Nat), pressM f 0 x = 0
  | 0, _ => rfl
  | f + 1, x => by rw [pressM]; simp [pressM_zero f]
theorem spreadM_zero : ∀ (f x : Nat), spreadM f 0 x = 0
  | 0, _ => rfl
  | f + 1, x => by rw [spreadM]; simp [spreadM_zero f]
theorem pop_zero : ∀ f : Nat, pop f 0 = 0
  | 0 => rfl
  | f + 1 => by rw [pop]; simp [pop_zero f]
theorem div_pow_succ (x k : Nat) : x / 2 ^ (k + 1) = x / 2 ^ k / 2 := by rw [Nat.pow_succ, Nat.div_div_eq_div_mul]
theorem pressL_M : ∀ (f k m x j : Nat), pressL x (placesF f k m) j = 2 ^ j * pressM f m (x / 2 ^ k)
  | 0, _, _, _, _ => by simp [placesF, pressL, pressM]
  | f + 1, k, m, x, j => by
    rw [placesF, pressM]
    have ih := fun j => pressL_M f (k + 1) (m / 2) x j
    by_cases h0 : m = 0
    · subst h0; simp [pressL, pressM_zero]
    · rw [if_neg h0]
      by_cases h1 : m % 2 = 1
      · rw [if_pos h1, if_pos h1, pressL, ih, div_pow_succ, Nat.pow_succ, Nat.mul_add, Nat.mul_comm (x / 2 ^ k % 2), Nat.mul_assoc]
      · rw [if_neg h1, if_neg h1, ih, div_pow_succ]
theorem spreadL_M : ∀ (f k m x j : Nat), spreadL x (placesF f k m) j = 2 ^ k * spreadM f m (x / 2 ^ j)
  | 0, _, _, _, _ => by simp [placesF, spreadL, spreadM]
  | f + 1, k, m, x, j => by
    rw [placesF, spreadM]
    have ih := fun j => spreadL_M f (k + 1) (m / 2) x j
    by_cases h0 : m = 0
    · subst h0; simp [spreadL, spreadM_zero]
    · rw [if_neg h0]
      by_cases h1 : m % 2 = 1
      · rw [if_pos h1, if_pos h1, spreadL, ih, div_pow_succ, Nat.pow_succ, Nat.mul_add, Nat.mul_comm (x / 2 ^ j % 2), Nat.mul_assoc]
      · rw [if_neg h1, if_neg h1, ih, Nat.pow_succ, Nat.mul_assoc]
theorem len_pop : ∀ (f k m : Nat), (placesF f k m).length = pop f m
  | 0, _, _ => rfl
  | f + 1, k, m => by
    rw [placesF, pop]
    have ih := len_pop f (k + 1) (m / 2)
    by_cases h0 : m = 0
    · subst h0; simp [pop_zero]
    · rw [if_neg h0]
      by_cases h1 : m % 2 = 1
      · rw [if_pos h1, List.length_cons, ih]; omega
      · rw [if_neg h1, ih]; omega
theorem press_spread : ∀ (f m x : Nat), pressM f m (spreadM f m x) = x % 2 ^ pop f m
  | 0, m, x => by simp [pressM, pop, Nat.mod_one]
  | f + 1, m, x => by
    rw [pressM, spreadM, pop]
    by_cases h1 : m % 2 = 1
    · rw [if_pos h1, if_pos h1]
      have e1 : (x % 2 + 2 * spreadM f (m / 2) (x / 2)) % 2 = x % 2 := by omega
      have e2 : (x % 2 + 2 * spreadM f (m / 2) (x / 2)) / 2 = spreadM f (m / 2) (x / 2) := by omega
      rw [e1, e2, press_spread f, h1, Nat.add_comm 1, Nat.pow_succ, Nat.mul_comm (2 ^ _) 2, Nat.mod_mul]
    · have h2 : m % 2 = 0 := by omega
      rw [if_neg h1, if_neg h1]
      have e2 : 2 * spreadM f (m / 2) x / 2 = spreadM f (m / 2) x := by omega
      rw [e2, press_spread f, h2, Nat.zero_add]
theorem and_step (x m : Nat) : x &&& m = (if m % 2 = 1 then x % 2 else 0) + 2 * (x / 2 &&& m / 2) := by
  have e2 : (x &&& m) / 2 = x / 2 &&& m / 2 := Nat.and_div_two
  have q := Nat.and_mod_two_eq_one (a := x) (b := m)
  have d := Nat.div_add_mod (x &&& m) 2
  rw [e2] at d
  by_cases h : m % 2 = 1
  · rw [if_pos h]
    rcases Nat.mod_two_eq_zero_or_one x with a | a <;> rw [a] at q ⊢ <;> omega
  · rw [if_neg h]
    have : (x &&& m) % 2 = 0 := by
      rcases Nat.mod_two_eq_zero_or_one (x &&& m) with a | a
      · exact a
      · have := q.mp a; omega
    omega
theorem spread_press : ∀ (f m x : Nat), m < 2 ^ f → spreadM f m (pressM f m x) = x &&& m
  | 0, m, x, hm => by
    have : m = 0 := by simp at hm; exact hm
    subst this
    simp [spreadM]
  | f + 1, m, x, hm => by
    have hm2 : m / 2 < 2 ^ f := by rw [Nat.pow_succ] at hm; omega
    rw [pressM, spreadM, and_step]
    by_cases h1 : m % 2 = 1
    · rw [if_pos h1, if_pos h1, if_pos h1]
      have e1 : (x % 2 + 2 * pressM f (m / 2) (x / 2)) % 2 = x % 2 := by omega
      have e2 : (x % 2 + 2 * pressM f (m / 2) (x / 2)) / 2 = pressM f (m / 2) (x / 2) := by omega
      rw [e1, e2, spread_press f _ _ hm2]
    · rw [if_neg h1, if_neg h1, if_neg h1, spread_press f _ _ hm2, Nat.zero_add]
theorem press_all : ∀ (f w x : Nat), w ≤ f → x < 2 ^ w → pressM f (2 ^ w - 1) x = x
  | 0, w, x, hw, hx => by
    have : w = 0 := by omega
    subst this
    have : x = 0 := by simp at hx; exact hx
    subst this
    rfl
  | f + 1, 0, x, hw, hx => by
    have : x = 0 := by simp at hx; exact hx
    subst this
    simp [pressM_zero]
  | f + 1, w + 1, x, hw, hx => by
    have h2 : 0 < 2 ^ w := Nat.two_pow_pos w
    rw [Nat.pow_succ] at hx ⊢
    have e1 : (2 ^ w * 2 - 1) % 2 = 1 := by omega
    have e2 : (2 ^ w * 2 - 1) / 2 = 2 ^ w - 1 := by omega
    rw [pressM, if_pos e1, e2, press_all f w (x / 2) (by omega) (by omega)]
    omega
theorem press_le : ∀ (f m x : Nat), pressM f m x < 2 ^ pop f m
  | 0, _, _ => by simp [pressM, pop]
  | f + 1, m, x => by
    rw [pressM, pop]
    have ih := press_le f (m / 2) (x / 2)
    by_cases h1 : m % 2 = 1
    · rw [if_pos h1, h1, Nat.add_comm 1, Nat.pow_succ]; omega
    · rw [if_neg h1, show m % 2 = 0 by omega, Nat.zero_add]; exact ih
theorem pressL_N (x m : Nat) : pressL x (placesN m) 0 = pressM 64 m x := by
  unfold placesN; rw [pressL_M]; simp
theorem spreadL_N (x m : Nat) : spreadL x (placesN m) 0 = spreadM 64 m x := by
  unfold placesN; rw [spreadL_M]; simp
theorem value2_ok (w : Nat) (vs : List Nat) (d : Deed) (hw2 : w ≤ 64) (hv : ∀ v ∈ vs, v < 2 ^ w) (g : Good w vs.length d) : F__law_value [.int w, .lst (nats vs), enc d] = some (.sh (.int (step w vs d : Nat))) := by
  have n0 : ∀ (x : Str) (r : List Dm), atI (Dm.str x :: r) 0 = some (.str x) := fun x r => atI_nat (j := 0) rfl
  have n1 : ∀ (x : Dm) (y : Dm) (r : List Dm), atI (x :: y :: r) 1 = some y := fun x y r => atI_nat (j := 1) rfl
  have n2 : ∀ (x y z : Dm) (r : List Dm), atI (x :: y :: z :: r) 2 = some z := fun x y z r => atI_nat (j := 2) rfl
  have p0 : powOk 1 (w : Int) = true := powOk_one (by omega) (by omega)
  cases d with
  | fix m => simp [F__law_value, bodyD, gRet, gSeq, gIf, gSet, gApp, BF.gNil, gFrz, frz, op2, dt, fVar, fC, evs, fTup, fLst, fCall, fB, fIx, ixD, fSl, slD, pNo, pSome, fz, own?, bB, bAnd, bOr, bNot, vAnd, vOr, vNot, fIsi, fList, fNeg, fCat, fRep, oAdd, oSub, oMul, oDiv, oMod, oPow, oShl, oShr, oAnd, oOr, oXor, oLt, oLe, oGt, oGe, oMin, oLen, oSum, enc, n0, n1, n2, str_tab, step]
  | mask a m => simp [F__law_value, bodyD, gRet, gSeq, gIf, gSet, gApp, BF.gNil, gFrz, frz, op2, dt, fVar, fC, evs, fTup, fLst, fCall, fB, fIx, ixD, fSl, slD, pNo, pSome, fz, own?, bB, bAnd, bOr, bNot, vAnd, vOr, vNot, fIsi, fList, fNeg, fCat, fRep, oAdd, oSub, oMul, oDiv, oMod, oPow, oShl, oShr, oAnd, oOr, oXor, oLt, oLe, oGt, oGe, oMin, oLen, oSum, enc, n0, n1, n2, str_tab, step, at_nats g.1, band_nat]
  | turn a m => simp [F__law_value, bodyD, gRet, gSeq, gIf, gSet, gApp, BF.gNil, gFrz, frz, op2, dt, fVar, fC, evs, fTup, fLst, fCall, fB, fIx, ixD, fSl, slD, pNo, pSome, fz, own?, bB, bAnd, bOr, bNot, vAnd, vOr, vNot, fIsi, fList, fNeg, fCat, fRep, oAdd, oSub, oMul, oDiv, oMod, oPow, oShl, oShr, oAnd, oOr, oXor, oLt, oLe, oGt, oGe, oMin, oLen, oSum, enc, n0, n1, n2, str_tab, step, at_nats g.1, bxor_nat]
  | both a b => simp [F__law_value, bodyD, gRet, gSeq, gIf, gSet, gApp, BF.gNil, gFrz, frz, op2, dt, fVar, fC, evs, fTup, fLst, fCall, fB, fIx, ixD, fSl, slD, pNo, pSome, fz, own?, bB, bAnd, bOr, bNot, vAnd, vOr, vNot, fIsi, fList, fNeg, fCat, fRep, oAdd, oSub, oMul, oDiv, oMod, oPow, oShl, oShr, oAnd, oOr, oXor, oLt, oLe, oGt, oGe, oMin, oLen, oSum, enc, n0, n1, n2, str_tab, step, at_nats g.1, at_nats g.2, bxor_nat]
  | up a n =>
    have hn : n ≤ w := g.2
    have p1 : powOk 1 (n : Int) = true := powOk_one (by omega) (by omega)
    have p2 := pow2_pos w
    have p3 : mulOk ((vs[a]?.getD 0 : Nat) : Int) (2 ^ n) = true := by
      have h1 := getD_lt hv a
      rw [List.getD_eq_getElem?_getD] at h1
      have h2 : 2 ^ w ≤ 2 ^ 64 := Nat.pow_le_pow_right (by decide) hw2
      exact mulOk_left (by omega) (by omega)
    simp [F__law_value, bodyD, gRet, gSeq, gIf, gSet, gApp, BF.gNil, gFrz, frz, op2, dt, fVar, fC, evs, fTup, fLst, fCall, fB, fIx, ixD, fSl, slD, pNo, pSome, fz, own?, bB, bAnd, bOr, bNot, vAnd, vOr, vNot, fIsi, fList, fNeg, fCat, fRep, oAdd, oSub, oMul, oDiv, oMod, oPow, oShl, oShr, oAnd, oOr, oXor, oLt, oLe, oGt, oGe, oMin, oLen, oSum, enc, n0, n1, n2, str_tab, step, at_nats g.1, p0, p1, p2, p3]
  | down a n =>
    have hn : n ≤ w := g.2
    have p1 : powOk 1 (n : Int) = true := powOk_one (by omega) (by omega)
    have p4 : divOk ((2 : Int) ^ n) = true := divOk_pow (by omega)
    simp [F__law_value, bodyD, gRet, gSeq, gIf, gSet, gApp, BF.gNil, gFrz, frz, op2, dt, fVar, fC, evs, fTup, fLst, fCall, fB, fIx, ixD, fSl, slD, pNo, pSome, fz, own?, bB, bAnd, bOr, bNot, vAnd, vOr, vNot, fIsi, fList, fNeg, fCat, fRep, oAdd, oSub, oMul, oDiv, oMod, oPow, oShl, oShr, oAnd, oOr, oXor, oLt, oLe, oGt, oGe, oMin, oLen, oSum, enc, n0, n1, n2, str_tab, step, at_nats g.1, p0, p1, p4]
theorem answer2_loop (w : Nat) (hw2 : w ≤ 64) (L x0 : Dm) : ∀ (ds : List Deed) (vs : List Nat) (s4 : Sl), (∀ v ∈ vs, v < 2 ^ w) → (∀ i d, ds[i]? = some d → Good w (vs.length + i) d) → vs.length + ds.length ≤ 2000 →
    ∃ t4, loopD (.nm 4) B__law_answer_1 (ds.map enc) [.sh (.int w), .sh L, .sh x0, .ow (nats vs), s4] = some (.nx [.sh (.int w), .sh L, .sh x0, .ow (nats (vals w vs ds)), t4])
  | [], vs, s4, _, _, _ => ⟨s4, rfl⟩
  | d :: ds, vs, s4, hv, hg, hl => by
    rw [List.length_cons] at hl
    have g0 : Good w vs.length d := hg 0 d rfl
    have hs := step_lt hv g0
    obtain ⟨t4, e⟩ := answer2_loop w hw2 L x0 ds (vs ++ [step w vs d]) (.sh (enc d)) (fun v h => (List.mem_append.mp h).elim (hv v) fun z => by rw [List.mem_singleton.mp z]; exact hs) (fun i d' h => by
      have := hg (i + 1) d' h
      rw [List.length_append, List.length_singleton]
      rw [show vs.length + (i + 1) = vs.length + 1 + i by omega] at this
      exact this) (by rw [List.length_append, List.length_singleton]; omega)
    refine ⟨t4, ?_⟩
    rw [List.map_cons]
    refine loop_cons (δ1 := [.sh (.int w), .sh L, .sh x0, .ow (nats vs), .sh (enc d)]) rfl (app_of (ds := nats vs) (r := .sh (.int (step w vs d : Nat))) rfl (call_of (rs := [.sh (.int w), .al 3 (nats vs), .sh (enc d)]) rfl (value2_ok w vs d hw2 hv g0) (by simp)) rfl (by unfold nats; rw [List.length_map, line24]; omega)) ?_
    have en : nats (vs ++ [step w vs d]) = nats vs ++ [.int (step w vs d : Nat)] := by unfold nats; rw [List.map_append]; rfl
    rw [en] at e
    exact e
theorem answer2_ok (w : Nat) (hw2 : w ≤ 64) (ds : List Deed) (x : Nat) (hx : x < 2 ^ w) (hg : GoodRow w ds) (hl : ds.length ≤ 1500) : F__law_answer [.int w, .lst (ds.map enc), .int x] = some (.sh (.int (lastV w ds x : Nat))) := by
  obtain ⟨t4, e⟩ := answer2_loop w hw2 (.lst (ds.map enc)) (.int x) ds [x] .un (fun v h => by rw [List.mem_singleton.mp h]; exact hx) (fun i d h => by have := hg i d h; rw [List.length_singleton, Nat.add_comm 1 i]; exact this) (by simp; omega)
  refine body_rt (r := (Rs.sh (.int (lastV w ds x : Nat))).out) (δ := [.sh (.int w), .sh (.lst (ds.map enc)), .sh (.int x), .un, .un]) rfl rfl (seq_nx (set_ow (d := nats [x]) (lst_of (rs := [.sh (.int x)]) rfl rfl (by rw [line24]; simp))) (seq_nx (for_of rfl e) ?_))
  show gRet _ [.sh (.int w), .sh (.lst (ds.map enc)), .sh (.int x), .sh (.lst (nats (vals w [x] ds))), t4] = _
  exact ret_of (ix_of (a := .lst (nats (vals w [x] ds))) (i := -1) (dt_of rfl) (dt_of (neg_of (dt_of rfl))) (nats_last (vals_ne w ds x)))
theorem in_lst_tab :
  (oIn false (.str (("up" : String) : Str)) (.lst [.str (("up" : String) : Str), .str (("down" : String) : Str)]) = some (.bl true)) ∧
  (oIn false (.str (("down" : String) : Str)) (.lst [.str (("up" : String) : Str), .str (("down" : String) : Str)]) = some (.bl true)) ∧
  (oIn false (.str (("mask" : String) : Str)) (.lst [.str (("up" : String) : Str), .str (("down" : String) : Str)]) = some (.bl false)) ∧
  (oIn false (.str (("turn" : String) : Str)) (.lst [.str (("up" : String) : Str), .str (("down" : String) : Str)]) = some (.bl false)) ∧
  (oIn false (.str (("mask" : String) : Str)) (.lst [.str (("mask" : String) : Str), .str (("turn" : String) : Str)]) = some (.bl true)) ∧
  (oIn false (.str (("turn" : String) : Str)) (.lst [.str (("mask" : String) : Str), .str (("turn" : String) : Str)]) = some (.bl true)) := by
  refine ⟨?_, ?_, ?_, ?_, ?_, ?_⟩ <;> kernel_rfl
theorem fine_row_ok (w many : Nat) (hw : w ≤ 64) (d : Deed) (g : Good w many d) : F__law_fine_row [enc d, .int w, .int many] = some (.sh (.bl true)) := by
  have n0 : ∀ (x : Str) (r : List Dm), atI (Dm.str x :: r) 0 = some (.str x) := fun x r => atI_nat (j := 0) rfl
  have n1 : ∀ (x : Dm) (y : Dm) (r : List Dm), atI (x :: y :: r) 1 = some y := fun x y r => atI_nat (j := 1) rfl
  have n2 : ∀ (x y z : Dm) (r : List Dm), atI (x :: y :: z :: r) 2 = some z := fun x y z r => atI_nat (j := 2) rfl
  have p : powOk 1 (w : Int) = true := powOk_one (by omega) (by omega)
  have e2 : ((2 ^ w : Nat) : Int) = (2 : Int) ^ w := by push_cast; rfl
  have hx0 : ∀ {δ : List Sl}, δ[0]? = some (.sh (enc d)) → fIx (fVar 0) (fC (.int 0)) δ = some (.sh (.str (nameOf d))) := fun {δ} h => ix_of (a := enc d) (i := 0) (dt_of (r := .sh (enc d)) (by unfold fVar; rw [h])) (dt_of rfl) (by rw [enc_eq]; exact n0 _ _)
  obtain ⟨t, e⟩ := loop_all (i := 3) (b := B__law_fine_row_1) (δ := [.sh (enc d), .sh (.int w), .sh (.int many), .un, .un]) (nats (numsOf d)) .un (fun x hx => by
    unfold nats at hx
    obtain ⟨n, _, rfl⟩ := List.mem_map.mp hx
    exact if_f (or_f (not_t (bB_of (dt_of (call_of (rs := [.sh (.int n)]) rfl (whole_ok n) rfl)))) (bB_of (b := false) (dt_of (op2_of (a := .int n) (b := .int 0) (d := .bl false) (dt_of rfl) (dt_of rfl) (by simp [oLt]))))) nil_nx)
  refine body_rt (r := (Rs.sh (.bl true)).out) (δ := [.sh (enc d), .sh (.int w), .sh (.int many), .un, .un]) rfl rfl (seq_nx (if_f (or_f (not_t (bB_of (b := true) (dt_of (isi_of (d := enc d) (dt_of rfl)) (by rw [enc_eq]; rfl)))) (not_t (bB_of (b := true) (dt_of (isi_of (d := .str (nameOf d)) (dt_of (hx0 rfl))))))) nil_nx) (seq_nx (for_of (iS_of (sl_tail (x := .str (nameOf d)) (ds := nats (numsOf d)) (dt_of (r := .sh (enc d)) rfl (enc_eq d))) rfl) e) (seq_nx (set_sh (d := .int (2 ^ w - 1)) (by simp [bodyD, gRet, gSeq, gIf, gSet, gApp, BF.gNil, gFrz, frz, op2, dt, fVar, fC, evs, fTup, fLst, fCall, fB, fIx, ixD, fSl, slD, pNo, pSome, fz, own?, bB, bAnd, bOr, bNot, vAnd, vOr, vNot, fIsi, fList, fNeg, fCat, fRep, oAdd, oSub, oMul, oDiv, oMod, oPow, oShl, oShr, oAnd, oOr, oXor, oLt, oLe, oGt, oGe, oMin, oLen, oSum, p])) ?_)))
  cases d with
  | fix m =>
    have g' : (m : Int) < 2 ^ w := by rw [← e2]; exact_mod_cast g
    have g'' : (m : Int) ≤ 2 ^ w - 1 := by omega
    refine seq_rt (if_t (by simp [bodyD, gRet, gSeq, gIf, gSet, gApp, BF.gNil, gFrz, frz, op2, dt, fVar, fC, evs, fTup, fLst, fCall, fB, fIx, ixD, fSl, slD, pNo, pSome, fz, own?, bB, bAnd, bOr, bNot, vAnd, vOr, vNot, fIsi, fList, fNeg, fCat, fRep, oAdd, oSub, oMul, oDiv, oMod, oPow, oShl, oShr, oAnd, oOr, oXor, oLt, oLe, oGt, oGe, oMin, oLen, oSum, enc, n0, str_tab]) ?_)
    simp [bodyD, gRet, gSeq, gIf, gSet, gApp, BF.gNil, gFrz, frz, op2, dt, fVar, fC, evs, fTup, fLst, fCall, fB, fIx, ixD, fSl, slD, pNo, pSome, fz, own?, bB, bAnd, bOr, bNot, vAnd, vOr, vNot, fIsi, fList, fNeg, fCat, fRep, oAdd, oSub, oMul, oDiv, oMod, oPow, oShl, oShr, oAnd, oOr, oXor, oLt, oLe, oGt, oGe, oMin, oLen, oSum, enc, n0, n1, oLen, oEq_int, g'']
  | mask a m =>
    have g1 : (a : Int) < many := by exact_mod_cast g.1
    have g2 : (m : Int) < 2 ^ w := by rw [← e2]; exact_mod_cast g.2
    have g3 : (m : Int) ≤ 2 ^ w - 1 := by omega
    refine seq_nx (if_f (by simp [bodyD, gRet, gSeq, gIf, gSet, gApp, BF.gNil, gFrz, frz, op2, dt, fVar, fC, evs, fTup, fLst, fCall, fB, fIx, ixD, fSl, slD, pNo, pSome, fz, own?, bB, bAnd, bOr, bNot, vAnd, vOr, vNot, fIsi, fList, fNeg, fCat, fRep, oAdd, oSub, oMul, oDiv, oMod, oPow, oShl, oShr, oAnd, oOr, oXor, oLt, oLe, oGt, oGe, oMin, oLen, oSum, enc, n0, str_tab]) nil_nx) (seq_nx (if_f (by simp [bodyD, gRet, gSeq, gIf, gSet, gApp, BF.gNil, gFrz, frz, op2, dt, fVar, fC, evs, fTup, fLst, fCall, fB, fIx, ixD, fSl, slD, pNo, pSome, fz, own?, bB, bAnd, bOr, bNot, vAnd, vOr, vNot, fIsi, fList, fNeg, fCat, fRep, oAdd, oSub, oMul, oDiv, oMod, oPow, oShl, oShr, oAnd, oOr, oXor, oLt, oLe, oGt, oGe, oMin, oLen, oSum, enc, n0, n1, oLen, oEq_int]; omega) nil_nx) (seq_nx (if_f (by simp [bodyD, gRet, gSeq, gIf, gSet, gApp, BF.gNil, gFrz, frz, op2, dt, fVar, fC, evs, fTup, fLst, fCall, fB, fIx, ixD, fSl, slD, pNo, pSome, fz, own?, bB, bAnd, bOr, bNot, vAnd, vOr, vNot, fIsi, fList, fNeg, fCat, fRep, oAdd, oSub, oMul, oDiv, oMod, oPow, oShl, oShr, oAnd, oOr, oXor, oLt, oLe, oGt, oGe, oMin, oLen, oSum, enc, n0, str_tab]) nil_nx) (seq_nx (if_f (by simp [bodyD, gRet, gSeq, gIf, gSet, gApp, BF.gNil, gFrz, frz, op2, dt, fVar, fC, evs, fTup, fLst, fCall, fB, fIx, ixD, fSl, slD, pNo, pSome, fz, own?, bB, bAnd, bOr, bNot, vAnd, vOr, vNot, fIsi, fList, fNeg, fCat, fRep, oAdd, oSub, oMul, oDiv, oMod, oPow, oShl, oShr, oAnd, oOr, oXor, oLt, oLe, oGt, oGe, oMin, oLen, oSum, enc, n0, in_lst_tab, line24]) nil_nx) (by simp [bodyD, gRet, gSeq, gIf, gSet, gApp, BF.gNil, gFrz, frz, op2, dt, fVar, fC, evs, fTup, fLst, fCall, fB, fIx, ixD, fSl, slD, pNo, pSome, fz, own?, bB, bAnd, bOr, bNot, vAnd, vOr, vNot, fIsi, fList, fNeg, fCat, fRep, oAdd, oSub, oMul, oDiv, oMod, oPow, oShl, oShr, oAnd, oOr, oXor, oLt, oLe, oGt, oGe, oMin, oLen, oSum, enc, n0, n2, in_lst_tab, line24, g3]))))
  | turn a m =>
    have g1 : (a : Int) < many := by exact_mod_cast g.1
    have g2 : (m : Int) < 2 ^ w := by rw [← e2]; exact_mod_cast g.2
    have g3 : (m : Int) ≤ 2 ^ w - 1 := by omega
    refine seq_nx (if_f (by simp [bodyD, gRet, gSeq, gIf, gSet, gApp, BF.gNil, gFrz, frz, op2, dt, fVar, fC, evs, fTup, fLst, fCall, fB, fIx, ixD, fSl, slD, pNo, pSome, fz, own?, bB, bAnd, bOr, bNot, vAnd, vOr, vNot, fIsi, fList, fNeg, fCat, fRep, oAdd, oSub, oMul, oDiv, oMod, oPow, oShl, oShr, oAnd, oOr, oXor, oLt, oLe, oGt, oGe, oMin, oLen, oSum, enc, n0, str_tab]) nil_nx) (seq_nx (if_f (by simp [bodyD, gRet, gSeq, gIf, gSet, gApp, BF.gNil, gFrz, frz, op2, dt, fVar, fC, evs, fTup, fLst, fCall, fB, fIx, ixD, fSl, slD, pNo, pSome, fz, own?, bB, bAnd, bOr, bNot, vAnd, vOr, vNot, fIsi, fList, fNeg, fCat, fRep, oAdd, oSub, oMul, oDiv, oMod, oPow, oShl, oShr, oAnd, oOr, oXor, oLt, oLe, oGt, oGe, oMin, oLen, oSum, enc, n0, n1, oLen, oEq_int]; omega) nil_nx) (seq_nx (if_f (by simp [bodyD, gRet, gSeq, gIf, gSet, gApp, BF.gNil, gFrz, frz, op2, dt, fVar, fC, evs, fTup, fLst, fCall, fB, fIx, ixD, fSl, slD, pNo, pSome, fz, own?, bB, bAnd, bOr, bNot, vAnd, vOr, vNot, fIsi, fList, fNeg, fCat, fRep, oAdd, oSub, oMul, oDiv, oMod, oPow, oShl, oShr, oAnd, oOr, oXor, oLt, oLe, oGt, oGe, oMin, oLen, oSum, enc, n0, str_tab]) nil_nx) (seq_nx (if_f (by simp [bodyD, gRet, gSeq, gIf, gSet, gApp, BF.gNil, gFrz, frz, op2, dt, fVar, fC, evs, fTup, fLst, fCall, fB, fIx, ixD, fSl, slD, pNo, pSome, fz, own?, bB, bAnd, bOr, bNot, vAnd, vOr, vNot, fIsi, fList, fNeg, fCat, fRep, oAdd, oSub, oMul, oDiv, oMod, oPow, oShl, oShr, oAnd, oOr, oXor, oLt, oLe, oGt, oGe, oMin, oLen, oSum, enc, n0, in_lst_tab, line24]) nil_nx) (by simp [bodyD, gRet, gSeq, gIf, gSet, gApp, BF.gNil, gFrz, frz, op2, dt, fVar, fC, evs, fTup, fLst, fCall, fB, fIx, ixD, fSl, slD, pNo, pSome, fz, own?, bB, bAnd, bOr, bNot, vAnd, vOr, vNot, fIsi, fList, fNeg, fCat, fRep, oAdd, oSub, oMul, oDiv, oMod, oPow, oShl, oShr, oAnd, oOr, oXor, oLt, oLe, oGt, oGe, oMin, oLen, oSum, enc, n0, n2, in_lst_tab, line24, g3]))))
  | both a m =>
    have g1 : (a : Int) < many := by exact_mod_cast g.1
    have g2 : (m : Int) < many := by exact_mod_cast g.2
    refine seq_nx (if_f (by simp [bodyD, gRet, gSeq, gIf, gSet, gApp, BF.gNil, gFrz, frz, op2, dt, fVar, fC, evs, fTup, fLst, fCall, fB, fIx, ixD, fSl, slD, pNo, pSome, fz, own?, bB, bAnd, bOr, bNot, vAnd, vOr, vNot, fIsi, fList, fNeg, fCat, fRep, oAdd, oSub, oMul, oDiv, oMod, oPow, oShl, oShr, oAnd, oOr, oXor, oLt, oLe, oGt, oGe, oMin, oLen, oSum, enc, n0, str_tab]) nil_nx) (seq_nx (if_f (by simp [bodyD, gRet, gSeq, gIf, gSet, gApp, BF.gNil, gFrz, frz, op2, dt, fVar, fC, evs, fTup, fLst, fCall, fB, fIx, ixD, fSl, slD, pNo, pSome, fz, own?, bB, bAnd, bOr, bNot, vAnd, vOr, vNot, fIsi, fList, fNeg, fCat, fRep, oAdd, oSub, oMul, oDiv, oMod, oPow, oShl, oShr, oAnd, oOr, oXor, oLt, oLe, oGt, oGe, oMin, oLen, oSum, enc, n0, n1, oLen, oEq_int]; omega) nil_nx) (seq_rt (if_t (by simp [bodyD, gRet, gSeq, gIf, gSet, gApp, BF.gNil, gFrz, frz, op2, dt, fVar, fC, evs, fTup, fLst, fCall, fB, fIx, ixD, fSl, slD, pNo, pSome, fz, own?, bB, bAnd, bOr, bNot, vAnd, vOr, vNot, fIsi, fList, fNeg, fCat, fRep, oAdd, oSub, oMul, oDiv, oMod, oPow, oShl, oShr, oAnd, oOr, oXor, oLt, oLe, oGt, oGe, oMin, oLen, oSum, enc, n0, str_tab]) (by simp [bodyD, gRet, gSeq, gIf, gSet, gApp, BF.gNil, gFrz, frz, op2, dt, fVar, fC, evs, fTup, fLst, fCall, fB, fIx, ixD, fSl, slD, pNo, pSome, fz, own?, bB, bAnd, bOr, bNot, vAnd, vOr, vNot, fIsi, fList, fNeg, fCat, fRep, oAdd, oSub, oMul, oDiv, oMod, oPow, oShl, oShr, oAnd, oOr, oXor, oLt, oLe, oGt, oGe, oMin, oLen, oSum, enc, n0, n2]; omega))))
  | up a m =>
    have g1 : (a : Int) < many := by exact_mod_cast g.1
    have g2 : m ≤ w := g.2
    refine seq_nx (if_f (by simp [bodyD, gRet, gSeq, gIf, gSet, gApp, BF.gNil, gFrz, frz, op2, dt, fVar, fC, evs, fTup, fLst, fCall, fB, fIx, ixD, fSl, slD, pNo, pSome, fz, own?, bB, bAnd, bOr, bNot, vAnd, vOr, vNot, fIsi, fList, fNeg, fCat, fRep, oAdd, oSub, oMul, oDiv, oMod, oPow, oShl, oShr, oAnd, oOr, oXor, oLt, oLe, oGt, oGe, oMin, oLen, oSum, enc, n0, str_tab]) nil_nx) (seq_nx (if_f (by simp [bodyD, gRet, gSeq, gIf, gSet, gApp, BF.gNil, gFrz, frz, op2, dt, fVar, fC, evs, fTup, fLst, fCall, fB, fIx, ixD, fSl, slD, pNo, pSome, fz, own?, bB, bAnd, bOr, bNot, vAnd, vOr, vNot, fIsi, fList, fNeg, fCat, fRep, oAdd, oSub, oMul, oDiv, oMod, oPow, oShl, oShr, oAnd, oOr, oXor, oLt, oLe, oGt, oGe, oMin, oLen, oSum, enc, n0, n1, oLen, oEq_int]; omega) nil_nx) (seq_nx (if_f (by simp [bodyD, gRet, gSeq, gIf, gSet, gApp, BF.gNil, gFrz, frz, op2, dt, fVar, fC, evs, fTup, fLst, fCall, fB, fIx, ixD, fSl, slD, pNo, pSome, fz, own?, bB, bAnd, bOr, bNot, vAnd, vOr, vNot, fIsi, fList, fNeg, fCat, fRep, oAdd, oSub, oMul, oDiv, oMod, oPow, oShl, oShr, oAnd, oOr, oXor, oLt, oLe, oGt, oGe, oMin, oLen, oSum, enc, n0, str_tab]) nil_nx) (seq_rt (if_t (by simp [bodyD, gRet, gSeq, gIf, gSet, gApp, BF.gNil, gFrz, frz, op2, dt, fVar, fC, evs, fTup, fLst, fCall, fB, fIx, ixD, fSl, slD, pNo, pSome, fz, own?, bB, bAnd, bOr, bNot, vAnd, vOr, vNot, fIsi, fList, fNeg, fCat, fRep, oAdd, oSub, oMul, oDiv, oMod, oPow, oShl, oShr, oAnd, oOr, oXor, oLt, oLe, oGt, oGe, oMin, oLen, oSum, enc, n0, in_lst_tab, line24]) (by simp [bodyD, gRet, gSeq, gIf, gSet, gApp, BF.gNil, gFrz, frz, op2, dt, fVar, fC, evs, fTup, fLst, fCall, fB, fIx, ixD, fSl, slD, pNo, pSome, fz, own?, bB, bAnd, bOr, bNot, vAnd, vOr, vNot, fIsi, fList, fNeg, fCat, fRep, oAdd, oSub, oMul, oDiv, oMod, oPow, oShl, oShr, oAnd, oOr, oXor, oLt, oLe, oGt, oGe, oMin, oLen, oSum, enc, n0, n2, g2])))))
  | down a m =>
    have g1 : (a : Int) < many := by exact_mod_cast g.1
    have g2 : m ≤ w := g.2
    refine seq_nx (if_f (by simp [bodyD, gRet, gSeq, gIf, gSet, gApp, BF.gNil, gFrz, frz, op2, dt, fVar, fC, evs, fTup, fLst, fCall, fB, fIx, ixD, fSl, slD, pNo, pSome, fz, own?, bB, bAnd, bOr, bNot, vAnd, vOr, vNot, fIsi, fList, fNeg, fCat, fRep, oAdd, oSub, oMul, oDiv, oMod, oPow, oShl, oShr, oAnd, oOr, oXor, oLt, oLe, oGt, oGe, oMin, oLen, oSum, enc, n0, str_tab]) nil_nx) (seq_nx (if_f (by simp [bodyD, gRet, gSeq, gIf, gSet, gApp, BF.gNil, gFrz, frz, op2, dt, fVar, fC, evs, fTup, fLst, fCall, fB, fIx, ixD, fSl, slD, pNo, pSome, fz, own?, bB, bAnd, bOr, bNot, vAnd, vOr, vNot, fIsi, fList, fNeg, fCat, fRep, oAdd, oSub, oMul, oDiv, oMod, oPow, oShl, oShr, oAnd, oOr, oXor, oLt, oLe, oGt, oGe, oMin, oLen, oSum, enc, n0, n1, oLen, oEq_int]; omega) nil_nx) (seq_nx (if_f (by simp [bodyD, gRet, gSeq, gIf, gSet, gApp, BF.gNil, gFrz, frz, op2, dt, fVar, fC, evs, fTup, fLst, fCall, fB, fIx, ixD, fSl, slD, pNo, pSome, fz, own?, bB, bAnd, bOr, bNot, vAnd, vOr, vNot, fIsi, fList, fNeg, fCat, fRep, oAdd, oSub, oMul, oDiv, oMod, oPow, oShl, oShr, oAnd, oOr, oXor, oLt, oLe, oGt, oGe, oMin, oLen, oSum, enc, n0, str_tab]) nil_nx) (seq_rt (if_t (by simp [bodyD, gRet, gSeq, gIf, gSet, gApp, BF.gNil, gFrz, frz, op2, dt, fVar, fC, evs, fTup, fLst, fCall, fB, fIx, ixD, fSl, slD, pNo, pSome, fz, own?, bB, bAnd, bOr, bNot, vAnd, vOr, vNot, fIsi, fList, fNeg, fCat, fRep, oAdd, oSub, oMul, oDiv, oMod, oPow, oShl, oShr, oAnd, oOr, oXor, oLt, oLe, oGt, oGe, oMin, oLen, oSum, enc, n0, in_lst_tab, line24]) (by simp [bodyD, gRet, gSeq, gIf, gSet, gApp, BF.gNil, gFrz, frz, op2, dt, fVar, fC, evs, fTup, fLst, fCall, fB, fIx, ixD, fSl, slD, pNo, pSome, fz, own?, bB, bAnd, bOr, bNot, vAnd, vOr, vNot, fIsi, fList, fNeg, fCat, fRep, oAdd, oSub, oMul, oDiv, oMod, oPow, oShl, oShr, oAnd, oOr, oXor, oLt, oLe, oGt, oGe, oMin, oLen, oSum, enc, n0, n2, g2])))))
theorem fine_ok (w most : Nat) (hw : w ≤ 64) (ds : List Deed) (hg : GoodRow w ds) (hl : ds.length ≤ most) (hm : most ≤ 5000) : F__law_fine [.lst (ds.map enc), .int w, .int most] = some (.sh (.bl true)) := by
  have hlen : ∀ {δ : List Sl}, δ[0]? = some (.sh (.lst (ds.map enc))) → fB oLen [fVar 0] δ = some (.sh (.int ds.length)) := fun {δ} h => fB_of (rs := [.sh (.lst (ds.map enc))]) (evs_cons (r := .sh (.lst (ds.map enc))) (by unfold fVar; rw [h]) evs_nil) (by simp [oLen])
  obtain ⟨t, e⟩ := loop_all (i := 3) (b := B__law_fine_1) (δ := [.sh (.lst (ds.map enc)), .sh (.int w), .sh (.int most), .un]) (rng 0 ds.length) .un (fun x hx => by
    unfold rng at hx
    obtain ⟨k, hk, rfl⟩ := List.mem_map.mp hx
    have hk := List.mem_range.mp hk
    rw [Int.zero_add]
    have hd : ds[k]? = some ds[k] := List.getElem?_eq_getElem hk
    refine if_f (not_t (bB_of (dt_of (call_of (rs := [.sh (enc ds[k]), .sh (.int w), .sh (.int (k + 1 : Nat))]) (evs_cons (r := .sh (enc ds[k])) (ix_of (a := .lst (ds.map enc)) (i := (k : Int)) (dt_of rfl) (dt_of rfl) (atI_nat (by rw [List.getElem?_map, hd]; rfl))) (evs_cons (r := .sh (.int w)) rfl (evs_cons (r := .sh (.int (k + 1 : Nat))) (op2_of (dt_of rfl) (dt_of rfl) (by simp [oAdd])) evs_nil))) (fine_row_ok w (k + 1) hw ds[k] (hg k _ hd)) rfl)))) nil_nx)
  exact body_rt (r := (Rs.sh (.bl true)).out) (δ := [.sh (.lst (ds.map enc)), .sh (.int w), .sh (.int most), .un]) rfl rfl (seq_nx (if_f (or_f (not_t (bB_of (b := true) (dt_of (isi_of (d := .lst (ds.map enc)) (dt_of rfl))))) (bB_of (b := false) (dt_of (op2_of (a := .int ds.length) (b := .int most) (d := .bl false) (dt_of (hlen rfl)) (dt_of rfl) (by simp [oGt]; omega))))) nil_nx) (seq_nx (for_of (iR_of (dt_of (hlen rfl)) (okR_nat (by omega))) e) (ret_of rfl)))
theorem times_loop (w : Int) : ∀ (f k K : Nat), k + f = K → w = 2 ^ K → K ≤ 100 → whileN (bB (op2 oLt (op2 oShl (fC (.int 1)) (fVar 1)) (fVar 0))) B__law_times_1 (f + 1) [.sh (.int w), .sh (.int k)] = some (.nx [.sh (.int w), .sh (.int K)])
  | 0, k, K, hk, hw, hK => by
    have hk' : k = K := by omega
    subst hk'
    have p1 : powOk 1 (k : Int) = true := powOk_one (by omega) (by omega)
    show ((bB (op2 oLt (op2 oShl (fC (.int 1)) (fVar 1)) (fVar 0))) _).bind _ = _
    rw [bB_of (b := false) (dt_of (op2_of (a := .int (2 ^ k)) (b := .int w) (d := .bl false) (dt_of (op2_of (d := .int (2 ^ k)) (dt_of rfl) (dt_of rfl) (by simp [oShl, p1]))) (dt_of rfl) (by simp [oLt, hw])))]
    rfl
  | f + 1, k, K, hk, hw, hK => by
    have p1 : powOk 1 (k : Int) = true := powOk_one (by omega) (by omega)
    have hlt : (2 : Int) ^ k < 2 ^ K := by
      have : (2 : Nat) ^ k < 2 ^ K := Nat.pow_lt_pow_right (by decide) (by omega)
      exact_mod_cast this
    show ((bB (op2 oLt (op2 oShl (fC (.int 1)) (fVar 1)) (fVar 0))) _).bind _ = _
    rw [bB_of (b := true) (dt_of (op2_of (a := .int (2 ^ k)) (b := .int w) (d := .bl true) (dt_of (op2_of (d := .int (2 ^ k)) (dt_of rfl) (dt_of rfl) (by simp [oShl, p1]))) (dt_of rfl) (by simp [oLt, hw, hlt])))]
    have e : B__law_times_1 [.sh (.int w), .sh (.int k)] = some (.nx [.sh (.int w), .sh (.int (k + 1 : Nat))]) := set_sh (d := .int (k + 1 : Nat)) (op2_of (dt_of rfl) (dt_of rfl) (by simp [oAdd]))
    rw [Option.bind_some, if_pos rfl, e]
    exact times_loop w f (k + 1) K (by omega) hw hK
theorem times_ok (K : Nat) (hK : K ≤ 100) : F__law_times [.int ((2 ^ K : Nat) : Int)] = some (.sh (.int K)) := by
  have e := times_loop ((2 ^ K : Nat) : Int) K 0 K (by omega) (by push_cast; rfl) hK
  exact body_rt (r := (Rs.sh (.int K)).out) (δ := [.sh (.int ((2 ^ K : Nat) : Int)), .un]) rfl rfl (seq_nx (set_sh (d := .int (0 : Nat)) rfl) (seq_nx (gWhile_of e) (ret_of rfl)))
/-! ### whole numbers from 0 on, operation by operation -/
section
variable {δ : List Sl} {fa fb : EF} {a b : Nat}
theorem beqN (a b : Nat) : ((a : Int) == (b : Int)) = decide (a = b) := by
  by_cases h : a = b
  · subst h; simp
  · rw [decide_eq_false h]; simp; omega
theorem addN (h1 : dt fa δ = some (.int a)) (h2 : dt fb δ = some (.int b)) : op2 oAdd fa fb δ = some (.sh (.int (a + b : Nat))) := op2_of h1 h2 (by show oI _ _ _ _ = _; rw [oI_int, if_pos rfl]; push_cast; rfl)
theorem subN (h1 : dt fa δ = some (.int a)) (h2 : dt fb δ = some (.int b)) (h : b ≤ a) : op2 oSub fa fb δ = some (.sh (.int (a - b : Nat))) := op2_of h1 h2 (by show oI _ _ _ _ = _; rw [oI_int, if_pos rfl, Int.ofNat_sub h])
theorem divN (h1 : dt fa δ = some (.int a)) (h2 : dt fb δ = some (.int b)) (h : 0 < b) (h' : b < 2 ^ 64) : op2 oDiv fa fb δ = some (.sh (.int (a / b : Nat))) := op2_of h1 h2 (by show oI _ _ _ _ = _; rw [oI_int, if_pos (divOk_small (by omega) (by omega))]; push_cast; rfl)
theorem modN (h1 : dt fa δ = some (.int a)) (h2 : dt fb δ = some (.int b)) (h : 0 < b) : op2 oMod fa fb δ = some (.sh (.int (a % b : Nat))) := op2_of h1 h2 (by show oI _ _ _ _ = _; rw [oI_int, if_pos (posOk_of (by omega))]; push_cast; rfl)
theorem mulN (h1 : dt fa δ = some (.int a)) (h2 : dt fb δ = some (.int b)) (h : a < 2 ^ 64) : op2 oMul fa fb δ = some (.sh (.int (a * b : Nat))) := op2_of h1 h2 (by show oI _ _ _ _ = _; rw [oI_int, if_pos (mulOk_left (by omega) (by omega))]; push_cast; rfl)
theorem shlN (h1 : dt fa δ = some (.int a)) (h2 : dt fb δ = some (.int b)) (h : a < 2 ^ 64) (h' : b ≤ 1000000) : op2 oShl fa fb δ = some (.sh (.int (a * 2 ^ b : Nat))) := op2_of h1 h2 (by show oI _ _ _ _ = _; rw [oI_int, if_pos (powOk_of (by omega) (by omega) (by omega)), Int.toNat_natCast]; push_cast; rfl)
theorem shl1 (h2 : dt fb δ = some (.int b)) (h' : b ≤ 1000000) : op2 oShl (fC (.int 1)) fb δ = some (.sh (.int (2 ^ b : Nat))) := by
  have := shlN (a := 1) (fa := fC (.int 1)) (dt_of rfl) h2 (by decide) h'
  rw [Nat.one_mul] at this
  exact this
theorem shrN (h1 : dt fa δ = some (.int a)) (h2 : dt fb δ = some (.int b)) : op2 oShr fa fb δ = some (.sh (.int (a / 2 ^ b : Nat))) := op2_of h1 h2 (by show oI _ _ _ _ = _; rw [oI_int, if_pos (nnOk_of (by omega)), Int.toNat_natCast]; push_cast; rfl)
theorem andN (h1 : dt fa δ = some (.int a)) (h2 : dt fb δ = some (.int b)) : op2 oAnd fa fb δ = some (.sh (.int (a &&& b : Nat))) := op2_of h1 h2 (by show oI _ _ _ _ = _; rw [oI_int, if_pos rfl, band_nat])
theorem xorN (h1 : dt fa δ = some (.int a)) (h2 : dt fb δ = some (.int b)) : op2 oXor fa fb δ = some (.sh (.int (a ^^^ b : Nat))) := op2_of h1 h2 (by show oI _ _ _ _ = _; rw [oI_int, if_pos rfl, bxor_nat])
theorem ltN {v : Bool} (h1 : dt fa δ = some (.int a)) (h2 : dt fb δ = some (.int b)) (e : decide (a < b) = v) : bB (op2 oLt fa fb) δ = some v := bB_of (dt_of (op2_of (d := .bl v) h1 h2 (by show oI _ _ _ _ = _; rw [oI_int, if_pos rfl, ← e]; congr 2; simp)))
theorem leN {v : Bool} (h1 : dt fa δ = some (.int a)) (h2 : dt fb δ = some (.int b)) (e : decide (a ≤ b) = v) : bB (op2 oLe fa fb) δ = some v := bB_of (dt_of (op2_of (d := .bl v) h1 h2 (by show oI _ _ _ _ = _; rw [oI_int, if_pos rfl, ← e]; congr 2; simp)))
theorem gtN {v : Bool} (h1 : dt fa δ = some (.int a)) (h2 : dt fb δ = some (.int b)) (e : decide (b < a) = v) : bB (op2 oGt fa fb) δ = some v := bB_of (dt_of (op2_of (d := .bl v) h1 h2 (by show oI _ _ _ _ = _; rw [oI_int, if_pos rfl, ← e]; congr 2; simp)))
theorem geN {v : Bool} (h1 : dt fa δ = some (.int a)) (h2 : dt fb δ = some (.int b)) (e : decide (b ≤ a) = v) : bB (op2 oGe fa fb) δ = some v := bB_of (dt_of (op2_of (d := .bl v) h1 h2 (by show oI _ _ _ _ = _; rw [oI_int, if_pos rfl, ← e]; congr 2; simp)))
theorem eqN' {v : Bool} (h1 : dt fa δ = some (.int a)) (h2 : dt fb δ = some (.int b)) (e : decide (a = b) = v) : op2 (oEq false) fa fb δ = some (.sh (.bl v)) := op2_of h1 h2 (by rw [oEq_int, if_neg Bool.false_ne_true, ← e, beqN])
theorem eqN {v : Bool} (h1 : dt fa δ = some (.int a)) (h2 : dt fb δ = some (.int b)) (e : decide (a = b) = v) : bB (op2 (oEq false) fa fb) δ = some v := bB_of (dt_of (eqN' h1 h2 e))
theorem neN {v : Bool} (h1 : dt fa δ = some (.int a)) (h2 : dt fb δ = some (.int b)) (e : decide (a ≠ b) = v) : bB (op2 (oEq true) fa fb) δ = some v := bB_of (dt_of (op2_of (d := .bl v) h1 h2 (by rw [oEq_int, if_pos rfl, ← e, beqN]; congr 2; simp)))
end
theorem inD_nats (a : Nat) : ∀ T : List Nat, inD (.int a) (nats T) = decide (a ∈ T)
  | [] => by simp [inD, inV, nats]
  | t :: T => by
    have e : inD (.int a) (nats (t :: T)) = (((t : Int) == (a : Int)) || inD (.int a) (nats T)) := rfl
    rw [e, inD_nats a T]
    by_cases h : a = t
    · subst h; simp
    · have : ((t : Int) == (a : Int)) = false := by simp; omega
      rw [this, Bool.false_or]
      simp [h]
theorem oIn_nats (neg : Bool) (a : Nat) (T : List Nat) : oIn neg (.int a) (.lst (nats T)) = some (.bl (if neg then !decide (a ∈ T) else decide (a ∈ T))) := by
  have hs : (nats T).all Dm.scal = true := by unfold nats; rw [List.all_eq_true]; intro x hx; obtain ⟨v, _, rfl⟩ := List.mem_map.mp hx; rfl
  show (if (Dm.scal (.int a) && (nats T).all Dm.scal) = true then some (Dm.bl (if neg then !inD (.int a) (nats T) else inD (.int a) (nats T))) else none) = _
  rw [hs, inD_nats]
  rfl
theorem inN {δ : List Sl} {fa fb : EF} {a : Nat} {T : List Nat} {v : Bool} (h1 : dt fa δ = some (.int a)) (h2 : dt fb δ = some (.lst (nats T))) (e : decide (a ∈ T) = v) : bB (op2 (oIn false) fa fb) δ = some v := bB_of (dt_of (op2_of (d := .bl v) h1 h2 (by rw [oIn_nats, if_neg Bool.false_ne_true, e])))
theorem ninN {δ : List Sl} {fa fb : EF} {a : Nat} {T : List Nat} {v : Bool} (h1 : dt fa δ = some (.int a)) (h2 : dt fb δ = some (.lst (nats T))) (e : (!decide (a ∈ T)) = v) : bB (op2 (oIn true) fa fb) δ = some v := bB_of (dt_of (op2_of (d := .bl v) h1 h2 (by rw [oIn_nats, if_pos rfl, e])))
theorem bAndV {f g : BF'} {δ : List Sl} {x y : Bool} (h : f δ = some x) (h2 : g δ = some y) : bAnd f g δ = some (x && y) := by unfold bAnd; rw [h, Option.bind_some]; cases x <;> simp [h2]
theorem bOrV {f g : BF'} {δ : List Sl} {x y : Bool} (h : f δ = some x) (h2 : g δ = some y) : bOr f g δ = some (x || y) := by unfold bOr; rw [h, Option.bind_some]; cases x <;> simp [h2]
theorem nats_app (a b : List Nat) : nats (a ++ b) = nats a ++ nats b := by unfold nats; rw [List.map_append]
theorem nats_len (a : List Nat) : (nats a).length = a.length := by unfold nats; rw [List.length_map]
theorem body_ret {np nN : Nat} {g : SF} {ds : List Dm} {δ : List Sl} {r : Rs} (d : Rs) (hl : ds.length = np) (hδ : ds.map Sl.sh ++ List.replicate (nN - np) Sl.un = δ) (h : g δ = some (.rt r)) (e : r = d) : bodyD np nN g ds = some d := by rw [← e]; exact body_rt hl hδ h
theorem iE_of {f : EF} {δ : List Sl} {r : Rs} {ds : List Dm} (h : f δ = some r) (h2 : r.fz = .sh (.lst ds)) : iE f δ = some (enumFrom 0 ds) := by
  unfold iE
  rw [fz_some h, Option.bind_some, h2, ← enumD_from]
  rfl
/-! ### the program's places, pressed and spread -/
theorem mapDI_map {α : Type} {t : Tg} {c : BF'} {f : EF} {δ : List Sl} (e : α → Dm) (p : α → Bool) (h : α → Dm) : ∀ {l : List α}, (∀ a ∈ l, ∃ δ1, setT t (e a) δ = some δ1 ∧ c δ1 = some (p a) ∧ (p a = true → ∃ r, f δ1 = some r ∧ r.fz = .sh (h a))) → mapDI t c f δ (l.map e) = some ((l.filter p).map h)
  | [], _ => rfl
  | a :: l, H => by
    obtain ⟨δ1, e1, e2, e3⟩ := H a List.mem_cons_self
    have ih := mapDI_map e p h (l := l) fun x hx => H x (List.mem_cons_of_mem _ hx)
    rw [List.map_cons]
    unfold mapDI
    rw [e1, Option.bind_some, e2, Option.bind_some]
    cases hp : p a with
    | false => rw [if_neg Bool.false_ne_true, ih, List.filter_cons_of_neg (by rw [hp]; exact Bool.false_ne_true)]
    | true =>
      obtain ⟨r, e4, e5⟩ := e3 hp
      rw [if_pos rfl, fz_some e4, e5, Option.bind_some, List.filter_cons_of_pos hp]
      show (if (Rs.sh (h a)).isSh = true then Option.map (fun ys => h a :: ys) (mapDI t c f δ (l.map e)) else none) = _
      rw [isSh_sh, if_pos rfl, ih]
      rfl
theorem loop_inv {t : Tg} {b : SF} (P : List Sl → Prop) : ∀ (ds : List Dm) (δ : List Sl), P δ → (∀ d ∈ ds, ∀ δ, P δ → ∃ δ1 δ2, setT t d δ = some δ1 ∧ b δ1 = some (.nx δ2) ∧ P δ2) → ∃ δ', loopD t b ds δ = some (.nx δ') ∧ P δ'
  | [], δ, h, _ => ⟨δ, rfl, h⟩
  | d :: ds, δ, h, H => by
    obtain ⟨δ1, δ2, e1, e2, p2⟩ := H d List.mem_cons_self δ h
    obtain ⟨δ', e, p⟩ := loop_inv P ds δ2 p2 fun x hx => H x (List.mem_cons_of_mem _ hx)
    exact ⟨δ', loop_cons e1 e2 e, p⟩
theorem band_one (a : Nat) : Builtin.bitAnd (a : Int) 1 = ((a % 2 : Nat) : Int) := by
  have := band_mask (a : Int) 1
  rw [show ((2 : Int) ^ 1 - 1) = 1 by decide, show ((2 : Int) ^ 1) = 2 by decide] at this
  rw [this]; push_cast; rfl
theorem shr_nat (a k : Nat) : (a : Int) / 2 ^ ((k : Int).toNat) = ((a / 2 ^ k : Nat) : Int) := by
  rw [Int.toNat_natCast]; push_cast; rfl
theorem bitE (x p : Nat) {δ : List Sl} {fx fp : EF} (h1 : dt fx δ = some (.int x)) (h2 : dt fp δ = some (.int p)) : op2 oAnd (op2 oShr fx fp) (fC (.int 1)) δ = some (.sh (.int (x / 2 ^ p % 2 : Nat))) := by
  have n1 : nnOk (p : Int) = true := nnOk_of (by omega)
  refine op2_of (a := .int (x / 2 ^ p : Nat)) (b := .int 1) (dt_of (op2_of (d := .int (x / 2 ^ p : Nat)) h1 h2 ?_)) (dt_of rfl) ?_
  · show oI _ _ _ _ = _
    rw [oI_int, if_pos n1, shr_nat]
  · show oI _ _ _ _ = _
    rw [oI_int, if_pos rfl, band_one]
theorem placesF_more : ∀ (f d k m : Nat), m < 2 ^ f → placesF (f + d) k m = placesF f k m
  | 0, d, k, m, hm => by
    have h0 : m = 0 := by simp at hm; exact hm
    subst h0
    cases d <;> simp [placesF]
  | f + 1, d, k, m, hm => by
    have hm2 : m / 2 < 2 ^ f := by rw [Nat.pow_succ] at hm; omega
    rw [show f + 1 + d = f + d + 1 by omega, placesF, placesF, placesF_more f d (k + 1) (m / 2) hm2]
theorem placesF_filter (M : Nat) : ∀ (f k : Nat), placesF f k (M / 2 ^ k) = (List.range' k f).filter fun j => M / 2 ^ j % 2 == 1
  | 0, k => rfl
  | f + 1, k => by
    have e : M / 2 ^ k / 2 = M / 2 ^ (k + 1) := by rw [Nat.pow_succ, Nat.div_div_eq_div_mul]
    have ih := placesF_filter M f (k + 1)
    rw [List.range'_succ, placesF, e, ih]
    by_cases h0 : M / 2 ^ k = 0
    · rw [if_pos h0, List.filter_cons_of_neg (by rw [h0]; decide)]
      refine (List.filter_eq_nil_iff.mpr fun j hj => ?_).symm
      have hk : k + 1 ≤ j := (List.mem_range'_1.mp hj).1
      have : M / 2 ^ j = 0 := by
        have hM : M < 2 ^ k := (Nat.div_eq_zero_iff_lt (Nat.two_pow_pos k)).mp h0
        exact Nat.div_eq_of_lt (Nat.lt_of_lt_of_le hM (Nat.pow_le_pow_right (by decide) (by omega)))
      rw [this]; decide
    · rw [if_neg h0]
      by_cases h1 : M / 2 ^ k % 2 = 1
      · rw [if_pos h1, List.filter_cons_of_pos (by rw [h1]; decide)]
      · rw [if_neg h1, List.filter_cons_of_neg (by simpa using h1)]
theorem placesN_filter (w m : Nat) (hw : w ≤ 64) (hm : m < 2 ^ w) : placesN m = (List.range w).filter fun j => m / 2 ^ j % 2 == 1 := by
  have h := placesF_more w (64 - w) 0 m hm
  have h2 := placesF_filter m w 0
  rw [Nat.pow_zero, Nat.div_one, ← List.range_eq_range'] at h2
  unfold placesN
  rw [show 64 = w + (64 - w) by omega, h, h2]
theorem places_of_ok (w m : Nat) (hw : w ≤ 64) (hm : m < 2 ^ w) : F_places_of [.int w, .int m] = some (.ow (nats (placesN m))) := by
  refine body_rt (r := (Rs.ow (nats (placesN m))).out) (δ := [.sh (.int w), .sh (.int m)]) rfl rfl (ret_of ?_)
  have key : mapDI (.nm 0) (bB (op2 (oEq false) (op2 oAnd (op2 oShr (fVar 2) (fVar 0)) (fC (.int 1))) (fC (.int 1)))) (fVar 0) [.un, .sh (.int w), .sh (.int m)] (rng 0 w) = some (nats (placesN m)) := by
    rw [placesN_filter w m hw hm]
    unfold rng nats
    refine mapDI_map (fun (k : Nat) => .int (0 + (k : Int))) (fun j => m / 2 ^ j % 2 == 1) _ fun k _ => ⟨_, rfl, ?_, fun _ => ⟨.sh (.int (k : Int)), by rw [Int.zero_add]; rfl, rfl⟩⟩
    rw [Int.zero_add]
    refine bB_of (dt_of (op2_of (a := .int (m / 2 ^ k % 2 : Nat)) (b := .int 1) (dt_of (bitE m k (dt_of rfl) (dt_of rfl))) (dt_of rfl) (oEq_int false _ _)) ?_)
    show Dm.bl _ = _
    congr 1
    rw [if_neg Bool.false_ne_true]
    rcases Nat.mod_two_eq_zero_or_one (m / 2 ^ k) with a | a <;> rw [a] <;> rfl
  unfold fCompI
  rw [iR_of (n := w) (dt_of rfl) (okR_nat (by omega)), Option.bind_some, if_pos (by rw [rng_len, line24]; omega)]
  show Option.map _ (mapDI _ _ _ [.un, .sh (.int w), .sh (.int m)] _) = _
  rw [key]
  rfl
theorem and_above (a b k : Nat) (h : a < 2 ^ k) : a &&& b * 2 ^ k = 0 := by
  apply Nat.eq_of_testBit_eq
  intro i
  rw [Nat.testBit_and, Nat.zero_testBit, ← Nat.shiftLeft_eq, Nat.testBit_shiftLeft]
  by_cases hi : k ≤ i
  · rw [Nat.testBit_lt_two_pow (Nat.lt_of_lt_of_le h (Nat.pow_le_pow_right (by decide) hi))]; rfl
  · rw [decide_eq_false hi]; simp
theorem bor_above (a b k : Nat) (h : a < 2 ^ k) : Builtin.bitOr (a : Int) ((b * 2 ^ k : Nat) : Int) = ((a + b * 2 ^ k : Nat) : Int) := by
  rw [PyProof.Rows.bitOr_and, band_nat, and_above a b k h]
  push_cast
  omega
theorem putE (a b k : Nat) (ha : a < 2 ^ k) (hb : b < 2) (hk : k ≤ 1000) {δ : List Sl} {fa fb fk : EF} (h1 : dt fa δ = some (.int a)) (h2 : dt fb δ = some (.int b)) (h3 : dt fk δ = some (.int k)) : op2 oOr fa (op2 oShl fb fk) δ = some (.sh (.int (a + b * 2 ^ k : Nat))) := by
  have p1 : powOk (b : Int) (k : Int) = true := powOk_of (by omega) (by omega) (by omega)
  refine op2_of (a := .int a) (b := .int (b * 2 ^ k : Nat)) h1 (dt_of (op2_of (d := .int (b * 2 ^ k : Nat)) h2 h3 ?_)) ?_
  · show oI _ _ _ _ = _
    rw [oI_int, if_pos p1, Int.toNat_natCast]
    push_cast
    rfl
  · show oI _ _ _ _ = _
    rw [oI_int, if_pos rfl, bor_above a b k ha]
theorem nats_cons (p : Nat) (ps : List Nat) : nats (p :: ps) = .int (p : Int) :: nats ps := rfl
theorem pressed_loop (W M : Sl) (x : Nat) : ∀ (ps : List Nat) (j made : Nat) (s4 s5 : Sl), made < 2 ^ j → j + ps.length ≤ 1000 →
    ∃ t4 t5, loopD (.tp [4, 5]) B_pressed_1 (enumFrom j (nats ps)) [W, .sh (.int x), M, .sh (.int made), s4, s5] = some (.nx [W, .sh (.int x), M, .sh (.int (made + pressL x ps j : Nat)), t4, t5])
  | [], j, made, s4, s5, _, _ => ⟨s4, s5, rfl⟩
  | p :: ps, j, made, s4, s5, hm, hl => by
    rw [List.length_cons] at hl
    have hb : x / 2 ^ p % 2 < 2 := Nat.mod_lt _ (by decide)
    have hm2 : made + x / 2 ^ p % 2 * 2 ^ j < 2 ^ (j + 1) := by
      have : x / 2 ^ p % 2 * 2 ^ j ≤ 1 * 2 ^ j := Nat.mul_le_mul_right _ (by omega)
      rw [Nat.pow_succ]; omega
    obtain ⟨t4, t5, e⟩ := pressed_loop W M x ps (j + 1) (made + x / 2 ^ p % 2 * 2 ^ j) (.sh (.int j)) (.sh (.int p)) hm2 (by omega)
    refine ⟨t4, t5, loop_cons (δ1 := [W, .sh (.int x), M, .sh (.int made), .sh (.int j), .sh (.int p)]) rfl (set_sh (d := .int (made + x / 2 ^ p % 2 * 2 ^ j : Nat)) (putE made (x / 2 ^ p % 2) j hm hb (by omega) (dt_of rfl) (dt_of (bitE x p (dt_of rfl) (dt_of rfl))) (dt_of rfl))) ?_⟩
    rw [show made + pressL x (p :: ps) j = made + x / 2 ^ p % 2 * 2 ^ j + pressL x ps (j + 1) by rw [pressL]; omega]
    exact e
theorem pressed_ok (w x m : Nat) (hw : w ≤ 64) (hm : m < 2 ^ w) : F_pressed [.int w, .int x, .int m] = some (.sh (.int (pressM 64 m x : Nat))) := by
  have hl := placesF_len 64 0 m
  obtain ⟨t4, t5, e⟩ := pressed_loop (.sh (.int w)) (.sh (.int m)) x (placesN m) 0 0 .un .un (by decide) (by unfold placesN; omega)
  rw [Nat.zero_add, pressL_N] at e
  refine body_rt (r := (Rs.sh (.int (pressM 64 m x : Nat))).out) (δ := [.sh (.int w), .sh (.int x), .sh (.int m), .un, .un, .un]) rfl rfl (seq_nx (set_sh (d := .int (0 : Nat)) rfl) (seq_nx (for_of (ds := enumFrom 0 (nats (placesN m))) ?_ e) (ret_of rfl)))
  unfold iE
  rw [fz_some (call_of (r := .ow (nats (placesN m))) (rs := [.sh (.int w), .sh (.int m)]) rfl (places_of_ok w m hw hm) rfl), Option.bind_some, fz_ow, ← enumD_from]
  rfl
theorem xor_low (b q j : Nat) : (b % 2) * 2 ^ j ^^^ q * 2 ^ (j + 1) = (b % 2 + 2 * q) * 2 ^ j := by
  have e : q * 2 ^ (j + 1) = (2 * q) * 2 ^ j := by rw [Nat.pow_succ]; rw [Nat.mul_comm (2 ^ j) 2, ← Nat.mul_assoc, Nat.mul_comm q 2]
  rw [e, ← Nat.shiftLeft_eq, ← Nat.shiftLeft_eq, ← Nat.shiftLeft_eq, ← Nat.shiftLeft_xor_distrib]
  congr 1
  have h := xor_add_and (b % 2) (2 * q)
  have h2 : b % 2 &&& 2 * q = 0 := by
    have := and_step (b % 2) (2 * q)
    rw [if_neg (by omega), show b % 2 / 2 = 0 by omega, Nat.zero_and] at this
    omega
  omega
theorem last_getD (l : List Nat) (h : l ≠ []) : l.getLast h = l.getD (l.length - 1) 0 := by
  rw [List.getLast_eq_getElem, List.getD_eq_getElem?_getD, List.getElem?_eq_getElem (by have := List.length_pos_iff.mpr h; omega)]
  rfl
/-! ### places that fall to their ranks -/
def Pt (t j p : Nat) : Nat := j + (p - j) / 2 ^ t * 2 ^ t
def mv (t j p : Nat) : Bool := ((p - j) / 2 ^ t) % 2 == 1
def Inc : Nat → List Nat → Prop
  | _, [] => True
  | lo, p :: ps => lo ≤ p ∧ Inc (p + 1) ps
theorem Inc.mono : ∀ {ps : List Nat} {a b : Nat}, a ≤ b → Inc b ps → Inc a ps
  | [], _, _, _, _ => trivial
  | p :: ps, a, b, h, i => ⟨Nat.le_trans h i.1, i.2⟩
theorem Pt_zero {j p : Nat} (h : j ≤ p) : Pt 0 j p = p := by unfold Pt; simp; omega
theorem Pt_le (t j p : Nat) : j ≤ Pt t j p := by unfold Pt; omega
theorem Pt_mono {t j p q : Nat} (h : j ≤ p) (h2 : p < q) : Pt t j p < Pt t (j + 1) q := by
  unfold Pt
  have : (p - j) / 2 ^ t ≤ (q - (j + 1)) / 2 ^ t := Nat.div_le_div_right (by omega)
  have := Nat.mul_le_mul_right (2 ^ t) this
  omega
theorem Pt_succ (t j p : Nat) : Pt t j p = Pt (t + 1) j p + (if mv t j p = true then 2 ^ t else 0) := by
  unfold Pt mv
  have e : (p - j) / 2 ^ (t + 1) = (p - j) / 2 ^ t / 2 := by rw [Nat.pow_succ, Nat.div_div_eq_div_mul]
  rw [e, Nat.pow_succ]
  generalize (p - j) / 2 ^ t = d
  generalize 2 ^ t = u
  have hd : d = d / 2 * 2 + d % 2 := by omega
  have e2 : d * u = d / 2 * (u * 2) + (d % 2) * u := by
    have := congrArg (fun z => z * u) hd
    simp only [Nat.add_mul] at this
    rw [this, Nat.mul_assoc, Nat.mul_comm 2 u]
  rcases Nat.mod_two_eq_zero_or_one d with a | a
  · rw [a, Nat.zero_mul] at e2
    rw [a]; simp; omega
  · rw [a, Nat.one_mul] at e2
    rw [a]; simp; omega
theorem Pt_end {t j p : Nat} (h : p - j < 2 ^ t) : Pt t j p = j := by unfold Pt; rw [Nat.div_eq_of_lt h, Nat.zero_mul, Nat.add_zero]
/-- the mask of what falls -/
def fallA (t s : Nat) : Nat → Nat → List Nat → Nat
  | _, acc, [] => acc
  | j, acc, p :: ps => fallA t s (j + 1) (if mv t j p = true then acc + 2 ^ Pt s j p else acc) ps
def Fits (M t s : Nat) : Nat → List Nat → Prop
  | _, [] => True
  | j, p :: ps => M.testBit (Pt s j p) = mv t j p ∧ Fits M t s (j + 1) ps
def headLe (s q j : Nat) : List Nat → Prop
  | [] => True
  | p :: _ => q ≤ Pt s j p
theorem headLe_next {s j p : Nat} {ps : List Nat} (h : j ≤ p) (i : Inc (p + 1) ps) : headLe s (Pt s j p + 1) (j + 1) ps := by
  cases ps with
  | nil => trivial
  | cons q qs => exact Pt_mono h (by have := i.1; omega)
theorem add_bit2 {M p : Nat} (h : M < 2 ^ p) (i : Nat) : (M + 2 ^ p).testBit i = (decide (p = i) || M.testBit i) := by
  have e := Nat.two_pow_add_eq_or_of_lt h 1
  rw [Nat.mul_one] at e
  rw [Nat.add_comm, e, Nat.testBit_or, Nat.testBit_two_pow]
theorem acc_lt {t s j p q acc : Nat} (ha : acc < 2 ^ q) (hq : q ≤ Pt s j p) : (if mv t j p = true then acc + 2 ^ Pt s j p else acc) < 2 ^ (Pt s j p + 1) := by
  have : 2 ^ q ≤ 2 ^ Pt s j p := Nat.pow_le_pow_right (by decide) hq
  rw [Nat.pow_succ]
  split <;> omega
theorem fall_low (t s : Nat) : ∀ (ps : List Nat) (lo j acc q i : Nat), j ≤ lo → Inc lo ps → headLe s q j ps → acc < 2 ^ q → i < q → (fallA t s j acc ps).testBit i = acc.testBit i
  | [], _, _, _, _, _, _, _, _, _, _ => rfl
  | p :: ps, lo, j, acc, q, i, hj, hi, hq, ha, hiq => by
    have hP : q ≤ Pt s j p := hq
    have haP : acc < 2 ^ Pt s j p := Nat.lt_of_lt_of_le ha (Nat.pow_le_pow_right (by decide) hP)
    have hjp : j ≤ p := Nat.le_trans hj hi.1
    rw [fallA, fall_low t s ps (p + 1) (j + 1) _ (Pt s j p + 1) i (by omega) hi.2 (headLe_next hjp hi.2) (acc_lt ha hP) (by omega)]
    split
    · rw [add_bit2 haP, decide_eq_false (by omega), Bool.false_or]
    · rfl
theorem fall_fits (t s : Nat) : ∀ (ps : List Nat) (lo j acc q : Nat), j ≤ lo → Inc lo ps → headLe s q j ps → acc < 2 ^ q → Fits (fallA t s j acc ps) t s j ps
  | [], _, _, _, _, _, _, _, _ => trivial
  | p :: ps, lo, j, acc, q, hj, hi, hq, ha => by
    have hP : q ≤ Pt s j p := hq
    have haP : acc < 2 ^ Pt s j p := Nat.lt_of_lt_of_le ha (Nat.pow_le_pow_right (by decide) hP)
    have hjp : j ≤ p := Nat.le_trans hj hi.1
    refine ⟨?_, ?_⟩
    · rw [fallA, fall_low t s ps (p + 1) (j + 1) _ (Pt s j p + 1) (Pt s j p) (by omega) hi.2 (headLe_next hjp hi.2) (acc_lt ha hP) (by omega)]
      cases hm : mv t j p with
      | true => rw [if_pos rfl, add_bit2 haP, decide_eq_true rfl, Bool.true_or]
      | false => rw [if_neg Bool.false_ne_true, Nat.testBit_lt_two_pow haP]
    · rw [fallA]
      exact fall_fits t s ps (p + 1) (j + 1) _ (Pt s j p + 1) (by omega) hi.2 (headLe_next hjp hi.2) (acc_lt ha hP)
theorem fall_shift (t : Nat) : ∀ (ps : List Nat) (lo j a : Nat), j ≤ lo → Inc lo ps → fallA t t j (a * 2 ^ 2 ^ t) ps = fallA t (t + 1) j a ps * 2 ^ 2 ^ t
  | [], _, _, _, _, _ => rfl
  | p :: ps, lo, j, a, hj, hi => by
    have hjp : j ≤ p := Nat.le_trans hj hi.1
    rw [fallA, fallA, ← fall_shift t ps (p + 1) (j + 1) _ (by omega) hi.2]
    congr 1
    split
    · rename_i hm
      have e := Pt_succ t j p
      rw [if_pos hm] at e
      rw [e, Nat.pow_add, Nat.add_mul]
    · rfl
/-- the bits that stand at these places -/
def V (β : Nat → Nat → Bool) (t : Nat) : Nat → List Nat → Nat
  | _, [] => 0
  | j, p :: ps => (if β j p = true then 2 ^ Pt t j p else 0) ^^^ V β t (j + 1) ps
def VM (β : Nat → Nat → Bool) (t s : Nat) : Nat → List Nat → Nat
  | _, [] => 0
  | j, p :: ps => (if β j p = true ∧ mv t j p = true then 2 ^ Pt s j p else 0) ^^^ VM β t s (j + 1) ps
theorem one_and (b : Bool) (P M : Nat) : (if b = true then 2 ^ P else 0) &&& M = if b = true ∧ M.testBit P = true then 2 ^ P else 0 := by
  cases b with
  | false => simp
  | true =>
    rw [if_pos rfl]
    apply Nat.eq_of_testBit_eq
    intro i
    rw [Nat.testBit_and, Nat.testBit_two_pow]
    by_cases h : P = i
    · subst h
      rw [decide_eq_true rfl, Bool.true_and]
      cases hb : M.testBit P with
      | true => rw [if_pos ⟨rfl, rfl⟩, Nat.testBit_two_pow_self]
      | false => rw [if_neg (fun z => absurd z.2 Bool.false_ne_true), Nat.zero_testBit]
    · rw [decide_eq_false h, Bool.false_and]
      split
      · rw [Nat.testBit_two_pow, decide_eq_false h]
      · rw [Nat.zero_testBit]
theorem V_and (β : Nat → Nat → Bool) (M t s : Nat) : ∀ (ps : List Nat) (j : Nat), Fits M t s j ps → V β s j ps &&& M = VM β t s j ps
  | [], j, _ => by simp [V, VM]
  | p :: ps, j, h => by
    rw [V, VM, Nat.and_xor_distrib_right, one_and, V_and β M t s ps (j + 1) h.2, h.1]
theorem xor4 (a b c d : Nat) : (a ^^^ b) ^^^ (c ^^^ d) = (a ^^^ c) ^^^ (b ^^^ d) := by
  apply Nat.eq_of_testBit_eq
  intro i
  simp only [Nat.testBit_xor]
  cases a.testBit i <;> cases b.testBit i <;> cases c.testBit i <;> cases d.testBit i <;> rfl
theorem xor6 (a A b B c C : Nat) : (a ^^^ A) ^^^ (b ^^^ B) ^^^ (c ^^^ C) = (a ^^^ b ^^^ c) ^^^ (A ^^^ B ^^^ C) := by
  apply Nat.eq_of_testBit_eq
  intro i
  simp only [Nat.testBit_xor]
  cases a.testBit i <;> cases b.testBit i <;> cases c.testBit i <;> cases A.testBit i <;> cases B.testBit i <;> cases C.testBit i <;> rfl
theorem VM_div (β : Nat → Nat → Bool) (t : Nat) : ∀ (ps : List Nat) (j : Nat), VM β t t j ps / 2 ^ 2 ^ t = VM β t (t + 1) j ps
  | [], j => by simp [VM]
  | p :: ps, j => by
    rw [VM, VM, Nat.xor_div_two_pow, VM_div β t ps (j + 1)]
    congr 1
    split
    · rename_i hm
      have e := Pt_succ t j p
      rw [if_pos hm.2] at e
      rw [e, Nat.pow_add, Nat.mul_div_cancel _ (Nat.two_pow_pos _)]
    · simp
theorem VM_mul (β : Nat → Nat → Bool) (t : Nat) : ∀ (ps : List Nat) (j : Nat), VM β t (t + 1) j ps * 2 ^ 2 ^ t = VM β t t j ps
  | [], j => by simp [VM]
  | p :: ps, j => by
    rw [VM, VM, ← VM_mul β t ps (j + 1), ← Nat.shiftLeft_eq, ← Nat.shiftLeft_eq, Nat.shiftLeft_xor_distrib]
    congr 1
    split
    · rename_i hm
      have e := Pt_succ t j p
      rw [if_pos hm.2] at e
      rw [e, Nat.pow_add, Nat.shiftLeft_eq]
    · simp
/-- what stays and what has moved -/
theorem V_step (β : Nat → Nat → Bool) (t : Nat) : ∀ (ps : List Nat) (j : Nat), V β t j ps ^^^ VM β t t j ps ^^^ VM β t (t + 1) j ps = V β (t + 1) j ps
  | [], j => by simp [V, VM]
  | p :: ps, j => by
    rw [V, VM, VM, V, xor6, V_step β t ps (j + 1)]
    congr 1
    have e := Pt_succ t j p
    cases hb : β j p with
    | false => simp
    | true =>
      cases hm : mv t j p with
      | true => simp
      | false => rw [hm] at e; simp at e; simp [e]
theorem V_back (β : Nat → Nat → Bool) (t : Nat) : ∀ (ps : List Nat) (j : Nat), V β (t + 1) j ps ^^^ VM β t (t + 1) j ps ^^^ VM β t t j ps = V β t j ps
  | [], j => by simp [V, VM]
  | p :: ps, j => by
    rw [V, VM, VM, V, xor6, V_back β t ps (j + 1)]
    congr 1
    have e := Pt_succ t j p
    cases hb : β j p with
    | false => simp
    | true =>
      cases hm : mv t j p with
      | true => simp
      | false => rw [hm] at e; simp at e; simp [e]
theorem V_still (β : Nat → Nat → Bool) (t : Nat) : ∀ (ps : List Nat) (j : Nat), Fits 0 t t j ps → V β t j ps = V β (t + 1) j ps
  | [], j, _ => rfl
  | p :: ps, j, h => by
    have hm : mv t j p = false := by rw [← h.1, Nat.zero_testBit]
    have e := Pt_succ t j p
    rw [hm, if_neg Bool.false_ne_true, Nat.add_zero] at e
    rw [V, V, e, V_still β t ps (j + 1) h.2]
theorem V_lt {w : Nat} (β : Nat → Nat → Bool) (t : Nat) : ∀ (ps : List Nat) (lo j : Nat), j ≤ lo → Inc lo ps → (∀ p ∈ ps, p < w) → V β t j ps < 2 ^ w
  | [], _, _, _, _, _ => Nat.two_pow_pos w
  | p :: ps, lo, j, hj, hi, hp => by
    have hpw := hp p List.mem_cons_self
    have hjp : j ≤ p := Nat.le_trans hj hi.1
    have hP : Pt t j p ≤ p := by
      unfold Pt
      have := Nat.div_mul_le_self (p - j) (2 ^ t)
      omega
    rw [V]
    refine Nat.xor_lt_two_pow ?_ (V_lt β t ps (p + 1) (j + 1) (by omega) hi.2 fun q hq => hp q (List.mem_cons_of_mem _ hq))
    split
    · exact Nat.pow_lt_pow_right (by decide) (by omega)
    · exact Nat.two_pow_pos w
/-! ### rows that move bits -/
def shD (up : Bool) (a n : Nat) : Deed := if up = true then .up a n else .down a n
def moveD (up : Bool) (m far g : Nat) : List Deed := [.mask g m, .both g (g + 1), shD up (g + 1) far, .both (g + 2) (g + 3)]
def shV (up : Bool) (w far v : Nat) : Nat := if up = true then v * 2 ^ far % 2 ^ w else v / 2 ^ far
theorem getD_l2 (l m : List Nat) (i : Nat) (h : i < l.length) : (l ++ m).getD i 0 = l.getD i 0 := by
  rw [List.getD_eq_getElem?_getD, List.getD_eq_getElem?_getD, List.getElem?_append_left h]
theorem getD_r2 (l m : List Nat) (i : Nat) : (l ++ m).getD (l.length + i) 0 = m.getD i 0 := by
  rw [List.getD_eq_getElem?_getD, List.getD_eq_getElem?_getD, List.getElem?_append_right (by omega), show l.length + i - l.length = i by omega]
theorem lastV_getD2 (w : Nat) (ds : List Deed) (x : Nat) : lastV w ds x = (vals w [x] ds).getD ds.length 0 := by
  have hl := vals_len w ds [x]
  rw [List.length_singleton] at hl
  unfold lastV
  rw [last_getD, hl, show 1 + ds.length - 1 = ds.length by omega]
theorem vals_moveD (up : Bool) (w m far : Nat) (vs : List Nat) (g : Nat) (hg : vs.length = g + 1) :
    (vals w vs (moveD up m far g)).getD (g + 4) 0 = vs.getD g 0 ^^^ (vs.getD g 0 &&& m) ^^^ shV up w far (vs.getD g 0 &&& m) := by
  generalize hx : vs.getD g 0 = x
  have key : ∀ (l : List Nat), (vs ++ l).getD g 0 = x := fun l => by rw [getD_l2 _ _ _ (by omega), hx]
  have at_ : ∀ (l : List Nat) (i : Nat), (vs ++ l).getD (g + 1 + i) 0 = l.getD i 0 := fun l i => by rw [← hg]; exact getD_r2 vs l i
  have s1 : step w (vs ++ []) (.mask g m) = x &&& m := by show (vs ++ []).getD g 0 &&& m = _; rw [key]
  have s2 : step w (vs ++ [x &&& m]) (.both g (g + 1)) = x ^^^ (x &&& m) := by
    show (vs ++ _).getD g 0 ^^^ (vs ++ _).getD (g + 1 + 0) 0 = _; rw [key, at_]; rfl
  have s3 : step w (vs ++ [x &&& m, x ^^^ (x &&& m)]) (shD up (g + 1) far) = shV up w far (x &&& m) := by
    unfold shD shV
    cases up with
    | true => show (vs ++ _).getD (g + 1 + 0) 0 * 2 ^ far % 2 ^ w = _; rw [at_]; rfl
    | false => show (vs ++ _).getD (g + 1 + 0) 0 / 2 ^ far = _; rw [at_]; rfl
  have s4 : step w (vs ++ [x &&& m, x ^^^ (x &&& m), shV up w far (x &&& m)]) (.both (g + 2) (g + 3)) = x ^^^ (x &&& m) ^^^ shV up w far (x &&& m) := by
    show (vs ++ _).getD (g + 1 + 1) 0 ^^^ (vs ++ _).getD (g + 1 + 2) 0 = _; rw [at_, at_]; rfl
  have e : vals w vs (moveD up m far g) = vs ++ [x &&& m, x ^^^ (x &&& m), shV up w far (x &&& m), x ^^^ (x &&& m) ^^^ shV up w far (x &&& m)] := by
    rw [List.append_nil] at s1
    unfold moveD
    simp only [vals, s1, List.append_assoc, List.cons_append, List.nil_append, s2, s3, s4]
  rw [e]
  exact at_ _ 3
theorem lastV_moveD (up : Bool) (w m far : Nat) (ds : List Deed) (x : Nat) : lastV w (ds ++ moveD up m far ds.length) x = lastV w ds x ^^^ (lastV w ds x &&& m) ^^^ shV up w far (lastV w ds x &&& m) := by
  have hl := vals_len w ds [x]
  rw [List.length_singleton] at hl
  rw [lastV_getD2, lastV_getD2, vals_app, List.length_append]
  exact vals_moveD up w m far _ _ (by omega)
theorem goodRow_moveD {up : Bool} {w m far : Nat} (hm : m < 2 ^ w) (hf : far ≤ w) {ds : List Deed} (hg : GoodRow w ds) : GoodRow w (ds ++ moveD up m far ds.length) := by
  have e : ds ++ moveD up m far ds.length = (((ds ++ [.mask ds.length m]) ++ [.both ds.length (ds.length + 1)]) ++ [shD up (ds.length + 1) far]) ++ [.both (ds.length + 2) (ds.length + 3)] := by
    unfold moveD; simp
  rw [e]
  cases up <;> refine goodRow_snoc (goodRow_snoc (goodRow_snoc (goodRow_snoc hg ?_) ?_) ?_) ?_ <;> simp only [Good, shD, if_true, Bool.false_eq_true, if_false, List.length_append, List.length_singleton] <;> omega
/-! ### the steps -/
def stepsF (ps : List Nat) : Nat → Nat → List (Nat × Nat)
  | 0, _ => []
  | n + 1, t => if fallA t t 0 0 ps = 0 then stepsF ps n (t + 1) else (fallA t t 0 0 ps, 2 ^ t) :: stepsF ps n (t + 1)
def pressD : List (Nat × Nat) → List Deed → List Deed
  | [], ds => ds
  | e :: es, ds => pressD es (ds ++ moveD false e.1 e.2 ds.length)
def spreadD : List (Nat × Nat) → List Deed → List Deed
  | [], ds => ds
  | e :: es, ds => spreadD es (ds ++ moveD true (e.1 / 2 ^ e.2) e.2 ds.length)
theorem head0 (s : Nat) (ps : List Nat) : headLe s 0 0 ps := by cases ps <;> simp [headLe]
theorem fits0 (t : Nat) {ps : List Nat} (hi : Inc 0 ps) : Fits (fallA t t 0 0 ps) t t 0 ps := fall_fits t t ps 0 0 0 0 (Nat.le_refl _) hi (head0 t ps) (by decide)
theorem fits1 (t : Nat) {ps : List Nat} (hi : Inc 0 ps) : Fits (fallA t (t + 1) 0 0 ps) t (t + 1) 0 ps := fall_fits t (t + 1) ps 0 0 0 0 (Nat.le_refl _) hi (head0 (t + 1) ps) (by decide)
theorem fallA_shift (t : Nat) {ps : List Nat} (hi : Inc 0 ps) : fallA t t 0 0 ps / 2 ^ 2 ^ t = fallA t (t + 1) 0 0 ps := by
  have := fall_shift t ps 0 0 0 (Nat.le_refl _) hi
  rw [Nat.zero_mul] at this
  rw [this, Nat.mul_div_cancel _ (Nat.two_pow_pos _)]
theorem fall_lt {w : Nat} (t s : Nat) : ∀ (ps : List Nat) (lo j acc : Nat), j ≤ lo → Inc lo ps → (∀ p ∈ ps, p < w) → headLe s 0 j ps → (∃ q, acc < 2 ^ q ∧ headLe s q j ps ∧ q ≤ w) → fallA t s j acc ps < 2 ^ w
  | [], _, _, acc, _, _, _, _, ⟨q, h1, _, h3⟩ => Nat.lt_of_lt_of_le h1 (Nat.pow_le_pow_right (by decide) h3)
  | p :: ps, lo, j, acc, hj, hi, hp, _, ⟨q, h1, h2, h3⟩ => by
    have hjp : j ≤ p := Nat.le_trans hj hi.1
    have hP : Pt s j p ≤ p := by
      unfold Pt
      have := Nat.div_mul_le_self (p - j) (2 ^ s)
      omega
    have hpw := hp p List.mem_cons_self
    rw [fallA]
    exact fall_lt t s ps (p + 1) (j + 1) _ (by omega) hi.2 (fun x hx => hp x (List.mem_cons_of_mem _ hx)) (by cases ps <;> simp [headLe]) ⟨Pt s j p + 1, acc_lt h1 h2, headLe_next hjp hi.2, by omega⟩
theorem fall_lt0 {w : Nat} (t s : Nat) {ps : List Nat} (hi : Inc 0 ps) (hp : ∀ p ∈ ps, p < w) : fallA t s 0 0 ps < 2 ^ w := fall_lt t s ps 0 0 0 (Nat.le_refl _) hi hp (head0 s ps) ⟨0, by decide, head0 s ps, Nat.zero_le _⟩
theorem press_steps {w : Nat} (β : Nat → Nat → Bool) {ps : List Nat} (hi : Inc 0 ps) (x : Nat) : ∀ (n t : Nat) (ds : List Deed), lastV w ds x = V β t 0 ps → lastV w (pressD (stepsF ps n t) ds) x = V β (t + n) 0 ps
  | 0, t, ds, h => h
  | n + 1, t, ds, h => by
    rw [stepsF, show t + (n + 1) = t + 1 + n by omega]
    have f := fits0 t hi
    by_cases h0 : fallA t t 0 0 ps = 0
    · rw [if_pos h0]
      rw [h0] at f
      exact press_steps β hi x n (t + 1) ds (by rw [h]; exact V_still β t ps 0 f)
    · rw [if_neg h0, pressD]
      refine press_steps β hi x n (t + 1) _ ?_
      rw [lastV_moveD, h, V_and β _ t t ps 0 f]
      show _ ^^^ _ ^^^ VM β t t 0 ps / 2 ^ 2 ^ t = _
      rw [VM_div]
      exact V_step β t ps 0
theorem stepsF_snoc (ps : List Nat) : ∀ (n t : Nat), stepsF ps (n + 1) t = stepsF ps n t ++ (if fallA (t + n) (t + n) 0 0 ps = 0 then [] else [(fallA (t + n) (t + n) 0 0 ps, 2 ^ (t + n))])
  | 0, t => by
    rw [stepsF, stepsF]
    show _ = (if fallA t t 0 0 ps = 0 then [] else [(fallA t t 0 0 ps, 2 ^ t)])
    split <;> rfl
  | n + 1, t => by
    rw [stepsF, stepsF_snoc ps n (t + 1), show t + 1 + n = t + (n + 1) by omega]
    conv => rhs; rw [stepsF]
    split <;> rfl
theorem spread_steps {w : Nat} (β : Nat → Nat → Bool) {ps : List Nat} (hi : Inc 0 ps) (hp : ∀ p ∈ ps, p < w) (x : Nat) : ∀ (n : Nat) (ds : List Deed), lastV w ds x = V β n 0 ps → lastV w (spreadD (stepsF ps n 0).reverse ds) x = V β 0 0 ps
  | 0, ds, h => h
  | n + 1, ds, h => by
    rw [stepsF_snoc, List.reverse_append, Nat.zero_add]
    have f := fits0 n hi
    by_cases h0 : fallA n n 0 0 ps = 0
    · rw [if_pos h0]
      rw [h0] at f
      exact spread_steps β hi hp x n ds (by rw [h]; exact (V_still β n ps 0 f).symm)
    · rw [if_neg h0]
      show lastV w (spreadD (stepsF ps n 0).reverse (ds ++ moveD true (fallA n n 0 0 ps / 2 ^ 2 ^ n) (2 ^ n) ds.length)) x = _
      refine spread_steps β hi hp x n _ ?_
      have f1 := fits1 n hi
      rw [lastV_moveD, h, fallA_shift n hi, V_and β _ n (n + 1) ps 0 f1]
      show _ ^^^ _ ^^^ VM β n (n + 1) 0 ps * 2 ^ 2 ^ n % 2 ^ w = _
      have hlt : VM β n n 0 ps < 2 ^ w := by
        rw [← V_and β _ n n ps 0 f]
        exact Nat.lt_of_le_of_lt Nat.and_le_left (V_lt β n ps 0 0 (Nat.le_refl _) hi hp)
      rw [VM_mul, Nat.mod_eq_of_lt hlt]
      exact V_back β n ps 0
theorem pressD_len : ∀ (es : List (Nat × Nat)) (ds : List Deed), (pressD es ds).length = ds.length + 4 * es.length
  | [], ds => rfl
  | e :: es, ds => by
    rw [pressD, pressD_len es, List.length_append, List.length_cons]
    show ds.length + 4 + 4 * es.length = _
    omega
theorem spreadD_len : ∀ (es : List (Nat × Nat)) (ds : List Deed), (spreadD es ds).length = ds.length + 4 * es.length
  | [], ds => rfl
  | e :: es, ds => by
    rw [spreadD, spreadD_len es, List.length_append, List.length_cons]
    show ds.length + 4 + 4 * es.length = _
    omega
theorem stepsF_len (ps : List Nat) : ∀ (n t : Nat), (stepsF ps n t).length ≤ n
  | 0, _ => by simp [stepsF]
  | n + 1, t => by
    have := stepsF_len ps n (t + 1)
    rw [stepsF]
    split
    · omega
    · rw [List.length_cons]; omega
theorem stepsF_all {w : Nat} {ps : List Nat} (hi : Inc 0 ps) (hp : ∀ p ∈ ps, p < w) : ∀ (n t : Nat), (∀ k, k < n → 2 ^ (t + k) ≤ w) → ∀ e ∈ stepsF ps n t, e.1 < 2 ^ w ∧ e.2 ≤ w
  | 0, _, _, e, h => by cases h
  | n + 1, t, hk, e, h => by
    rw [stepsF] at h
    have rec_ : ∀ e ∈ stepsF ps n (t + 1), e.1 < 2 ^ w ∧ e.2 ≤ w := stepsF_all hi hp n (t + 1) fun k hk' => by rw [show t + 1 + k = t + (k + 1) by omega]; exact hk (k + 1) (by omega)
    split at h
    · exact rec_ e h
    · rcases List.mem_cons.mp h with rfl | h
      · exact ⟨fall_lt0 t t hi hp, hk 0 (by omega)⟩
      · exact rec_ e h
theorem pressD_good {w : Nat} : ∀ (es : List (Nat × Nat)) (ds : List Deed), (∀ e ∈ es, e.1 < 2 ^ w ∧ e.2 ≤ w) → GoodRow w ds → GoodRow w (pressD es ds)
  | [], ds, _, hg => hg
  | e :: es, ds, h, hg => pressD_good es _ (fun a ha => h a (List.mem_cons_of_mem _ ha)) (goodRow_moveD (h e List.mem_cons_self).1 (h e List.mem_cons_self).2 hg)
theorem spreadD_good {w : Nat} : ∀ (es : List (Nat × Nat)) (ds : List Deed), (∀ e ∈ es, e.1 < 2 ^ w ∧ e.2 ≤ w) → GoodRow w ds → GoodRow w (spreadD es ds)
  | [], ds, _, hg => hg
  | e :: es, ds, h, hg => spreadD_good es _ (fun a ha => h a (List.mem_cons_of_mem _ ha)) (goodRow_moveD (Nat.lt_of_le_of_lt (Nat.div_le_self _ _) (h e List.mem_cons_self).1) (h e List.mem_cons_self).2 hg)
/-! ### the first and the last place of the bits -/
theorem bit01' (x k : Nat) : (if x.testBit k = true then 2 ^ k else 0) = (x / 2 ^ k % 2) * 2 ^ k := by
  rw [Nat.testBit_eq_decide_div_mod_eq]
  rcases Nat.mod_two_eq_zero_or_one (x / 2 ^ k) with a | a <;> rw [a] <;> simp
theorem bit02 (x k j : Nat) : (if x.testBit k = true then 2 ^ j else 0) = (x / 2 ^ k % 2) * 2 ^ j := by
  rw [Nat.testBit_eq_decide_div_mod_eq]
  rcases Nat.mod_two_eq_zero_or_one (x / 2 ^ k) with a | a <;> rw [a] <;> simp
theorem V_start (x : Nat) : ∀ (f k m j : Nat), j ≤ k → m < 2 ^ f → V (fun _ p => x.testBit p) 0 j (placesF f k m) = (x / 2 ^ k &&& m) * 2 ^ k
  | 0, k, m, j, _, hm => by
    have h0 : m = 0 := by simpa using hm
    subst h0
    simp [placesF, V]
  | f + 1, k, m, j, hj, hm => by
    have hm2 : m / 2 < 2 ^ f := by rw [Nat.pow_succ] at hm; omega
    rw [placesF]
    by_cases h0 : m = 0
    · rw [if_pos h0, h0, V, Nat.and_zero, Nat.zero_mul]
    rw [if_neg h0]
    have e2 : x / 2 ^ k / 2 = x / 2 ^ (k + 1) := by rw [Nat.pow_succ, Nat.div_div_eq_div_mul]
    by_cases h1 : m % 2 = 1
    · rw [if_pos h1, V, V_start x f (k + 1) (m / 2) (j + 1) (by omega) hm2, Pt_zero hj, bit01', xor_low, and_step (x / 2 ^ k) m, if_pos h1, e2]
    · rw [if_neg h1, V_start x f (k + 1) (m / 2) j (by omega) hm2, and_step (x / 2 ^ k) m, if_neg h1, e2, Nat.pow_succ, Nat.zero_add, Nat.mul_comm (2 ^ k) 2, ← Nat.mul_assoc, Nat.mul_comm _ 2]
theorem pressL_mult (x : Nat) : ∀ (ps : List Nat) (j : Nat), ∃ q, pressL x ps j = q * 2 ^ j
  | [], j => ⟨0, by simp [pressL]⟩
  | p :: ps, j => by
    obtain ⟨q, hq⟩ := pressL_mult x ps (j + 1)
    refine ⟨x / 2 ^ p % 2 + 2 * q, ?_⟩
    rw [pressL, hq, Nat.pow_succ, Nat.add_mul, Nat.mul_comm (2 ^ j) 2, ← Nat.mul_assoc, Nat.mul_comm q 2]
theorem V_end (x t : Nat) : ∀ (ps : List Nat) (j : Nat), (∀ p ∈ ps, p < 2 ^ t) → V (fun _ p => x.testBit p) t j ps = pressL x ps j
  | [], j, _ => rfl
  | p :: ps, j, h => by
    have hp := h p List.mem_cons_self
    obtain ⟨q, hq⟩ := pressL_mult x ps (j + 1)
    rw [V, V_end x t ps (j + 1) fun a ha => h a (List.mem_cons_of_mem _ ha), pressL, Pt_end (by omega), bit02, hq, xor_low, Nat.pow_succ, Nat.add_mul, Nat.mul_comm (2 ^ j) 2, ← Nat.mul_assoc, Nat.mul_comm q 2]
theorem inc_places : ∀ (f k m : Nat), Inc k (placesF f k m)
  | 0, _, _ => trivial
  | f + 1, k, m => by
    rw [placesF]
    split
    · trivial
    · split
      · exact ⟨Nat.le_refl _, inc_places f (k + 1) (m / 2)⟩
      · exact (inc_places f (k + 1) (m / 2)).mono (Nat.le_succ k)
theorem places_lt {w m : Nat} (hw : w ≤ 64) (hm : m < 2 ^ w) : ∀ p ∈ placesN m, p < w := fun p hp => by
  have h := placesF_more w (64 - w) 0 m hm
  unfold placesN at hp
  rw [show 64 = w + (64 - w) by omega, h] at hp
  have := placesF_lt w 0 m p hm hp
  omega
/-! ### ranks and places -/
def jps : Nat → List Nat → List (Nat × Nat)
  | _, [] => []
  | j, p :: ps => (j, p) :: jps (j + 1) ps
theorem jps_len : ∀ (j : Nat) (ps : List Nat), (jps j ps).length = ps.length
  | _, [] => rfl
  | j, p :: ps => by rw [jps, List.length_cons, jps_len (j + 1) ps, List.length_cons]
def PL (t : Nat) (ps : List Nat) : List Nat := (jps 0 ps).map fun e => Pt t e.1 e.2
def fl (t : Nat) (e : Nat × Nat) : Nat := if mv t e.1 e.2 = true then 2 ^ t else 0
theorem PL_zero {ps : List Nat} : Inc 0 ps → PL 0 ps = ps := by
  have key : ∀ (ps : List Nat) (lo j : Nat), j ≤ lo → Inc lo ps → (jps j ps).map (fun e => Pt 0 e.1 e.2) = ps := by
    intro ps
    induction ps with
    | nil => intro lo j _ _; rfl
    | cons p ps ih =>
      intro lo j hj hi
      have hjp : j ≤ p := Nat.le_trans hj hi.1
      rw [jps, List.map_cons, ih (p + 1) (j + 1) (by omega) hi.2]
      show Pt 0 j p :: ps = _
      rw [Pt_zero hjp]
  exact key ps 0 0 (Nat.le_refl _)
theorem fl_and (t : Nat) (e : Nat × Nat) : (Pt t e.1 e.2 - e.1) &&& 2 ^ t = fl t e := by
  unfold Pt fl mv
  rw [show e.1 + (e.2 - e.1) / 2 ^ t * 2 ^ t - e.1 = (e.2 - e.1) / 2 ^ t * 2 ^ t by omega]
  generalize (e.2 - e.1) / 2 ^ t = d
  have h := one_and true t (d * 2 ^ t)
  rw [if_pos rfl, ← Nat.shiftLeft_eq, Nat.testBit_shiftLeft, decide_eq_true (Nat.le_refl t), Bool.true_and, Nat.sub_self, Nat.testBit_zero] at h
  rw [Nat.and_comm, ← Nat.shiftLeft_eq, h]
  rcases Nat.mod_two_eq_zero_or_one d with a | a <;> rw [a] <;> simp
theorem enum_jps (t : Nat) : ∀ (ps : List Nat) (j : Nat), enumFrom j (nats ((jps j ps).map fun e => Pt t e.1 e.2)) = (jps j ps).map fun e => Dm.tup [.int (e.1 : Nat), .int (Pt t e.1 e.2 : Nat)]
  | [], j => rfl
  | p :: ps, j => by
    rw [jps, List.map_cons, List.map_cons, nats_cons, enumFrom, enum_jps t ps (j + 1)]
theorem zip_jps (t : Nat) : ∀ (ps : List Nat) (j : Nat), zipD (nats ((jps j ps).map fun e => Pt t e.1 e.2)) (nats ((jps j ps).map (fl t))) = (jps j ps).map fun e => Dm.tup [.int (Pt t e.1 e.2 : Nat), .int (fl t e : Nat)]
  | [], j => rfl
  | p :: ps, j => by
    rw [jps, List.map_cons, List.map_cons, List.map_cons, nats_cons, nats_cons, zipD, zip_jps t ps (j + 1)]
theorem sum_fall (t : Nat) : ∀ (ps : List Nat) (j acc : Nat), (((jps j ps).filter fun e => mv t e.1 e.2).map fun e => ((2 ^ Pt t e.1 e.2 : Nat) : Int)).sum + (acc : Int) = (fallA t t j acc ps : Nat)
  | [], j, acc => by simp [jps, fallA]
  | p :: ps, j, acc => by
    rw [jps, fallA]
    cases h : mv t j p with
    | true =>
      rw [List.filter_cons_of_pos (by exact h), List.map_cons, List.sum_cons, if_pos rfl, ← sum_fall t ps (j + 1)]
      push_cast
      omega
    | false => rw [List.filter_cons_of_neg (by rw [h]; exact Bool.false_ne_true), if_neg Bool.false_ne_true, sum_fall t ps (j + 1)]
theorem Pt_sub (t : Nat) (e : Nat × Nat) : Pt t e.1 e.2 - fl t e = Pt (t + 1) e.1 e.2 := by
  have := Pt_succ t e.1 e.2
  unfold fl
  omega
theorem fl_le (t : Nat) (e : Nat × Nat) : fl t e ≤ Pt t e.1 e.2 := by
  have := Pt_succ t e.1 e.2
  unfold fl
  omega
theorem fl_ne (t : Nat) (e : Nat × Nat) : decide (fl t e ≠ 0) = mv t e.1 e.2 := by
  have := Nat.two_pow_pos t
  unfold fl
  cases mv t e.1 e.2 with
  | true => rw [if_pos rfl]; simp
  | false => simp
theorem jps_mem : ∀ {ps : List Nat} {j : Nat} {e : Nat × Nat}, e ∈ jps j ps → e.2 ∈ ps
  | [], _, _, h => by cases h
  | p :: ps, j, e, h => by
    rw [jps] at h
    rcases List.mem_cons.mp h with rfl | h
    · exact List.mem_cons_self
    · exact List.mem_cons_of_mem _ (jps_mem h)
theorem Pt_le_p {t : Nat} : ∀ {ps : List Nat} {lo j : Nat} {e : Nat × Nat}, j ≤ lo → Inc lo ps → e ∈ jps j ps → Pt t e.1 e.2 ≤ e.2
  | [], _, _, _, _, _, h => by cases h
  | p :: ps, lo, j, e, hj, hi, h => by
    have hjp : j ≤ p := Nat.le_trans hj hi.1
    rw [jps] at h
    rcases List.mem_cons.mp h with rfl | h
    · show Pt t j p ≤ p
      unfold Pt
      have := Nat.div_mul_le_self (p - j) (2 ^ t)
      omega
    · exact Pt_le_p (by omega) hi.2 h
/-! ### the program: steps_of -/
def encE (e : Nat × Nat) : Dm := .tup [.int e.1, .int e.2]
theorem enc0 {e : Nat × Nat} {δ : List Sl} {i : Nat} (h : fVar i δ = some (.sh (encE e))) : fIx (fVar i) (fC (.int 0)) δ = some (.sh (.int e.1)) := ix_of (a := encE e) (i := 0) (dt_of h) (dt_of rfl) (atI_nat (j := 0) rfl)
theorem enc1 {e : Nat × Nat} {δ : List Sl} {i : Nat} (h : fVar i δ = some (.sh (encE e))) : fIx (fVar i) (fC (.int 1)) δ = some (.sh (.int e.2)) := ix_of (a := encE e) (i := 1) (dt_of h) (dt_of rfl) (atI_nat (j := 1) rfl)
theorem ret_slot {i : Nat} {δ : List Sl} {ds : List Dm} (h : δ[i]? = some (.ow ds)) : gRet (fVar i) δ = some (.rt (.ow ds)) := ret_of (r := .al i ds) (by unfold fVar; rw [h])
theorem ints_mapA {α : Type} (g : α → Int) : ∀ l : List α, ints? (l.map fun k => Dm.int (g k)) = some (l.map g)
  | [] => rfl
  | k :: l => by
    show (some (g k)).bind (fun i => (ints? (l.map fun k => Dm.int (g k))).map fun r => i :: r) = _
    rw [ints_mapA g l]; rfl
theorem compI_of {src : IF} {t : Tg} {ix : List (Option Nat)} {c : BF'} {f : EF} {δ : List Sl} {ds ys : List Dm} (h1 : src δ = some ds) (h2 : ds.length ≤ sizeLine) (h3 : mapDI t c f (subS ix δ) ds = some ys) : fCompI src t ix c f δ = some (.ow ys) := by
  unfold fCompI; rw [h1, Option.bind_some, if_pos h2, h3]; rfl
theorem steps_body (w m t : Nat) (ps : List Nat) (hi : Inc 0 ps) (hp : ∀ p ∈ ps, p < 64) (hl : ps.length ≤ 64) (ht : t ≤ 6) (S : List (Nat × Nat)) (hS : S.length ≤ 100) (s5 s6 : Sl) :
    ∃ t5 t6, B_steps_of_1 [.sh (.int w), .sh (.int m), .ow (S.map encE), .sh (.lst (nats (PL t ps))), .sh (.int (2 ^ t : Nat)), s5, s6] = some (.nx [.sh (.int w), .sh (.int m), .ow ((S ++ (if fallA t t 0 0 ps = 0 then [] else [(fallA t t 0 0 ps, 2 ^ t)])).map encE), .sh (.lst (nats (PL (t + 1) ps))), .sh (.int (2 ^ (t + 1) : Nat)), t5, t6]) := by
  have jl := jps_len 0 ps
  have p64 : ∀ e ∈ jps 0 ps, Pt t e.1 e.2 < 64 := fun e he => Nat.lt_of_le_of_lt (Pt_le_p (Nat.le_refl _) hi he) (hp _ (jps_mem he))
  have zl : ∀ {δ : List Sl}, δ[3]? = some (.sh (.lst (nats (PL t ps)))) → δ[5]? = some (.sh (.lst (nats ((jps 0 ps).map (fl t))))) → iZ (fVar 3) (fVar 5) δ = some ((jps 0 ps).map fun e => Dm.tup [.int (Pt t e.1 e.2 : Nat), .int (fl t e : Nat)]) := fun {δ} h1 h2 => by
    rw [← zip_jps]
    exact iZ_of (r := .sh (.lst (nats (PL t ps)))) (q := .sh (.lst (nats ((jps 0 ps).map (fl t))))) (by unfold fVar; rw [h1]) rfl (by unfold fVar; rw [h2]) rfl
  have hlen : ((jps 0 ps).map fun e => Dm.tup [.int (Pt t e.1 e.2 : Nat), .int (fl t e : Nat)]).length ≤ sizeLine := by rw [List.length_map, jl, line24]; omega
  refine ⟨.sh (.lst (nats ((jps 0 ps).map (fl t)))), .sh (.int (fallA t t 0 0 ps : Nat)), seq_nx (set_fz (r := .ow (nats ((jps 0 ps).map (fl t)))) ?_ rfl) (seq_nx (set_sh (d := .int (fallA t t 0 0 ps : Nat)) ?_) (seq_nx (δ' := [.sh (.int w), .sh (.int m), .ow ((S ++ (if fallA t t 0 0 ps = 0 then [] else [(fallA t t 0 0 ps, 2 ^ t)])).map encE), .sh (.lst (nats (PL t ps))), .sh (.int (2 ^ t : Nat)), .sh (.lst (nats ((jps 0 ps).map (fl t)))), .sh (.int (fallA t t 0 0 ps : Nat))]) ?_ (seq_nx (set_fz (r := .ow (nats (PL (t + 1) ps))) ?_ rfl) (set_sh (d := .int (2 ^ (t + 1) : Nat)) ?_))))⟩
  · unfold nats
    rw [List.map_map]
    refine comp_of (ds := enumFrom 0 (nats (PL t ps))) (iE_of (r := .sh (.lst (nats (PL t ps)))) rfl rfl) (by unfold PL; rw [enum_jps, List.length_map, jl, line24]; omega) ?_
    unfold PL
    rw [enum_jps]
    refine mapD_map _ _ fun e he => ⟨_, rfl, .sh (.int (fl t e : Nat)), ?_, rfl⟩
    rw [← fl_and]
    exact andN (a := Pt t e.1 e.2 - e.1) (b := 2 ^ t) (dt_of (subN (a := Pt t e.1 e.2) (b := e.1) (dt_of rfl) (dt_of rfl) (Pt_le t e.1 e.2))) (dt_of rfl)
  · refine fB_of (rs := [.sh (.lst (((jps 0 ps).filter fun e => mv t e.1 e.2).map fun e : Nat × Nat => Dm.int ((2 ^ Pt t e.1 e.2 : Nat) : Int)))]) (evs_cons (r := .ow (((jps 0 ps).filter fun e => mv t e.1 e.2).map fun e : Nat × Nat => Dm.int ((2 ^ Pt t e.1 e.2 : Nat) : Int))) (compI_of (zl rfl rfl) hlen (mapDI_map _ (fun e : Nat × Nat => mv t e.1 e.2) _ fun e he => ⟨_, rfl, ?_, fun _ => ⟨.sh (.int (2 ^ Pt t e.1 e.2 : Nat)), ?_, rfl⟩⟩)) evs_nil) ?_
    · exact neN (a := fl t e) (b := 0) (dt_of rfl) (dt_of rfl) (fl_ne t e)
    · exact shl1 (b := Pt t e.1 e.2) (dt_of rfl) (by have := p64 e he; omega)
    · have e1 := ints_mapA (fun e : Nat × Nat => ((2 ^ Pt t e.1 e.2 : Nat) : Int)) ((jps 0 ps).filter fun e => mv t e.1 e.2)
      have e2 := sum_fall t ps 0 0
      rw [Int.natCast_zero, Int.add_zero] at e2
      show (ints? (((jps 0 ps).filter fun e => mv t e.1 e.2).map fun e : Nat × Nat => Dm.int ((2 ^ Pt t e.1 e.2 : Nat) : Int))).map _ = _
      rw [e1]
      show some (Dm.int (List.sum _)) = _
      rw [e2]
  · by_cases h0 : fallA t t 0 0 ps = 0
    · rw [if_pos h0, List.append_nil]
      exact if_f (neN (a := fallA t t 0 0 ps) (b := 0) (dt_of rfl) (dt_of rfl) (by simp [h0])) nil_nx
    · rw [if_neg h0, List.map_append]
      exact if_t (neN (a := fallA t t 0 0 ps) (b := 0) (dt_of rfl) (dt_of rfl) (by simp [h0])) (app_of (i := 2) (ds := S.map encE) (r := .sh (encE (fallA t t 0 0 ps, 2 ^ t))) rfl (tup_of (rs := [.sh (.int (fallA t t 0 0 ps : Nat)), .sh (.int (2 ^ t : Nat))]) rfl rfl (by rw [line24]; simp)) rfl (by rw [List.length_map, line24]; omega))
  · have hp1 : nats (PL (t + 1) ps) = (jps 0 ps).map fun e => Dm.int ((Pt (t + 1) e.1 e.2 : Nat) : Int) := by unfold nats PL; rw [List.map_map]; rfl
    rw [hp1]
    refine comp_of (zl rfl rfl) hlen (mapD_map _ _ fun (e : Nat × Nat) he => ⟨_, rfl, .sh (.int (Pt (t + 1) e.1 e.2 : Nat)), ?_, rfl⟩)
    rw [← Pt_sub]
    exact subN (a := Pt t e.1 e.2) (b := fl t e) (dt_of rfl) (dt_of rfl) (fl_le t e)
  · rw [show 2 ^ (t + 1) = 2 * 2 ^ t by rw [Nat.pow_succ, Nat.mul_comm]]
    exact mulN (a := 2) (b := 2 ^ t) (dt_of rfl) (dt_of rfl) (by decide)
theorem steps_loop (m K : Nat) (hK : K ≤ 6) (ps : List Nat) (hi : Inc 0 ps) (hp : ∀ p ∈ ps, p < 64) (hl : ps.length ≤ 64) : ∀ (n t : Nat) (S : List (Nat × Nat)) (s5 s6 : Sl), t + n = K → S.length + n ≤ 100 → ∃ δ', whileN (bB (op2 oLt (fVar 4) (fVar 0))) B_steps_of_1 (n + 1) [.sh (.int (2 ^ K : Nat)), .sh (.int m), .ow (S.map encE), .sh (.lst (nats (PL t ps))), .sh (.int (2 ^ t : Nat)), s5, s6] = some (.nx δ') ∧ δ'[2]? = some (.ow ((S ++ stepsF ps n t).map encE))
  | 0, t, S, s5, s6, ht, _ => by
    have e : t = K := by omega
    subst e
    refine ⟨[.sh (.int (2 ^ t : Nat)), .sh (.int m), .ow (S.map encE), .sh (.lst (nats (PL t ps))), .sh (.int (2 ^ t : Nat)), s5, s6], ?_, by rw [stepsF, List.append_nil]; rfl⟩
    show ((bB (op2 oLt (fVar 4) (fVar 0))) _).bind _ = _
    rw [ltN (v := false) (a := 2 ^ t) (b := 2 ^ t) (dt_of rfl) (dt_of rfl) (by simp)]
    rfl
  | n + 1, t, S, s5, s6, ht, hS => by
    have hlt : 2 ^ t < 2 ^ K := Nat.pow_lt_pow_right (by decide) (by omega)
    obtain ⟨t5, t6, hb⟩ := steps_body (2 ^ K) m t ps hi hp hl (by omega) S (by omega) s5 s6
    obtain ⟨δ', e, e2⟩ := steps_loop m K hK ps hi hp hl n (t + 1) (S ++ (if fallA t t 0 0 ps = 0 then [] else [(fallA t t 0 0 ps, 2 ^ t)])) t5 t6 (by omega) (by rw [List.length_append]; split <;> simp <;> omega)
    refine ⟨δ', ?_, ?_⟩
    · show ((bB (op2 oLt (fVar 4) (fVar 0))) _).bind _ = _
      rw [ltN (v := true) (a := 2 ^ t) (b := 2 ^ K) (dt_of rfl) (dt_of rfl) (decide_eq_true hlt), Option.bind_some, if_pos rfl, hb]
      exact e
    · rw [e2, stepsF, List.append_assoc]
      congr 3
      split <;> rfl
theorem steps_of_ok (K m : Nat) (hK : K ≤ 6) (hm : m < 2 ^ 2 ^ K) : F_steps_of [.int (2 ^ K : Nat), .int m] = some (.ow ((stepsF (placesN m) K 0).map encE)) := by
  have hw : 2 ^ K ≤ 64 := Nat.le_trans (Nat.pow_le_pow_right (by decide) hK) (by decide)
  have hi : Inc 0 (placesN m) := inc_places 64 0 m
  have hpl : ∀ p ∈ placesN m, p < 64 := fun p hp => Nat.lt_of_lt_of_le (places_lt hw hm p hp) hw
  obtain ⟨δ', e, e2⟩ := steps_loop m K hK (placesN m) hi hpl (placesF_len 64 0 m) K 0 [] .un .un (by omega) (by simp; omega)
  rw [PL_zero hi] at e
  exact body_rt (r := .ow ((stepsF (placesN m) K 0).map encE)) (δ := [.sh (.int (2 ^ K : Nat)), .sh (.int m), .un, .un, .un, .un, .un]) rfl rfl (seq_nx (set_ow (d := []) rfl) (seq_nx (set_fz (r := .ow (nats (placesN m))) (call_of (rs := [.sh (.int (2 ^ K : Nat)), .sh (.int m)]) rfl (places_of_ok (2 ^ K) m hw hm) rfl) rfl) (seq_nx (set_sh (d := .int (1 : Nat)) rfl) (seq_nx (gWhile_of e) (ret_slot e2)))))
/-! ### spread: the first and the last place of the bits -/
theorem press_self : ∀ (f m : Nat), pressM f m m = 2 ^ pop f m - 1
  | 0, m => rfl
  | f + 1, m => by
    rw [pressM, pop, press_self f (m / 2)]
    have := Nat.two_pow_pos (pop f (m / 2))
    by_cases h : m % 2 = 1
    · rw [if_pos h, h, show 1 + pop f (m / 2) = pop f (m / 2) + 1 by omega, Nat.pow_succ]; omega
    · rw [if_neg h, show m % 2 = 0 by omega, Nat.zero_add]
theorem V_endS (x t : Nat) : ∀ (ps : List Nat) (j : Nat), (∀ p ∈ ps, p < 2 ^ t) → V (fun j _ => x.testBit j) t j ps = (x / 2 ^ j % 2 ^ ps.length) * 2 ^ j
  | [], j, _ => by simp [V, Nat.mod_one]
  | p :: ps, j, h => by
    have hp := h p List.mem_cons_self
    have e2 : x / 2 ^ j / 2 = x / 2 ^ (j + 1) := by rw [Nat.pow_succ, Nat.div_div_eq_div_mul]
    rw [V, V_endS x t ps (j + 1) fun a ha => h a (List.mem_cons_of_mem _ ha), Pt_end (by omega), bit02, xor_low, List.length_cons, Nat.pow_succ 2 ps.length, Nat.mul_comm (2 ^ ps.length) 2, Nat.mod_mul, e2]
theorem V_startS (x : Nat) : ∀ (f k m j : Nat), j ≤ k → V (fun j _ => x.testBit j) 0 j (placesF f k m) = spreadL x (placesF f k m) j
  | 0, k, m, j, _ => rfl
  | f + 1, k, m, j, hj => by
    rw [placesF]
    by_cases h0 : m = 0
    · rw [if_pos h0]; rfl
    rw [if_neg h0]
    by_cases h1 : m % 2 = 1
    · rw [if_pos h1, V, V_startS x f (k + 1) (m / 2) (j + 1) (by omega), Pt_zero hj, bit02, spreadL, spreadL_M, Nat.mul_comm (2 ^ (k + 1)), xor_low, Nat.add_mul, Nat.pow_succ 2 k, Nat.mul_comm (2 ^ k) 2, ← Nat.mul_assoc, Nat.mul_comm _ 2]
    · rw [if_neg h1, V_startS x f (k + 1) (m / 2) j (by omega)]
theorem moving_up (m far g : Nat) : F_moving [.str "up", .int m, .int far, .int g] = some (.ow ((moveD true m far g).map enc)) := by
  have ad : ∀ (c : Nat) {δ : List Sl}, δ[3]? = some (.sh (.int g)) → op2 oAdd (fVar 3) (fC (.int c)) δ = some (.sh (.int (g + c : Nat))) := fun c {δ} h => addN (a := g) (b := c) (dt_of (by unfold fVar; rw [h])) (dt_of rfl)
  have tp : ∀ {f0 f1 f2 : EF} {δ : List Sl} (n : Str) (a b : Nat), f0 δ = some (.sh (.str n)) → f1 δ = some (.sh (.int a)) → f2 δ = some (.sh (.int b)) → fTup [f0, f1, f2] δ = some (.sh (.tup [.str n, .int a, .int b])) := fun {f0 f1 f2 δ} n a b h0 h1 h2 => tup_of (rs := [.sh (.str n), .sh (.int a), .sh (.int b)]) (evs_cons h0 (evs_cons h1 (evs_cons h2 evs_nil))) rfl (by rw [line24]; simp)
  refine body_rt (r := (Rs.ow ((moveD true m far g).map enc)).out) (δ := [.sh (.str "up"), .sh (.int m), .sh (.int far), .sh (.int g)]) rfl rfl (ret_of ?_)
  exact lst_of (rs := [.sh (enc (.mask g m)), .sh (enc (.both g (g + 1))), .sh (enc (.up (g + 1) far)), .sh (enc (.both (g + 2) (g + 3)))]) (evs_cons (r := .sh (enc (.mask g m))) (tp _ g m rfl rfl rfl) (evs_cons (r := .sh (enc (.both g (g + 1)))) (tp _ g (g + 1) rfl rfl (ad 1 rfl)) (evs_cons (r := .sh (enc (.up (g + 1) far))) (tp _ (g + 1) far rfl (ad 1 rfl) rfl) (evs_cons (r := .sh (enc (.both (g + 2) (g + 3)))) (tp _ (g + 2) (g + 3) rfl (ad 2 rfl) (ad 3 rfl)) evs_nil)))) rfl (by rw [line24]; simp)
theorem spread_rows_loop (S0 S1 : Sl) : ∀ (es : List (Nat × Nat)) (ds : List Deed) (s3 : Sl), ds.length + 4 * es.length ≤ 5000 → ∃ t3, loopD (.nm 3) B_spread_rows_1 (es.map encE) [S0, S1, .ow (ds.map enc), s3] = some (.nx [S0, S1, .ow ((spreadD es ds).map enc), t3])
  | [], ds, s3, _ => ⟨s3, rfl⟩
  | e :: es, ds, s3, hl => by
    rw [List.length_cons] at hl
    have l4 : (moveD true (e.1 / 2 ^ e.2) e.2 ds.length).length = 4 := rfl
    obtain ⟨t3, e1⟩ := spread_rows_loop S0 S1 es (ds ++ moveD true (e.1 / 2 ^ e.2) e.2 ds.length) (.sh (encE e)) (by rw [List.length_append]; omega)
    refine ⟨t3, loop_cons (δ1 := [S0, S1, .ow (ds.map enc), .sh (encE e)]) rfl (set_ow (d := ds.map enc ++ (moveD true (e.1 / 2 ^ e.2) e.2 ds.length).map enc) (cat_of (dt_of rfl) (dt_of (call_of (rs := [.sh (.str "up"), .sh (.int (e.1 / 2 ^ e.2 : Nat)), .sh (.int e.2), .sh (.int ds.length)]) (evs_cons (r := .sh (.str "up")) rfl (evs_cons (r := .sh (.int (e.1 / 2 ^ e.2 : Nat))) (shrN (a := e.1) (b := e.2) (dt_of (enc0 (e := e) rfl)) (dt_of (enc1 (e := e) rfl))) (evs_cons (r := .sh (.int e.2)) (enc1 (e := e) rfl) (evs_cons (r := .sh (.int ds.length)) (fB_of (rs := [.al 2 (ds.map enc)]) (d := .int ds.length) rfl (by simp [oLen])) evs_nil)))) (moving_up (e.1 / 2 ^ e.2) e.2 ds.length) rfl)) (by rw [List.length_map, List.length_map, line24]; omega))) ?_⟩
    rw [List.map_append] at e1
    exact e1
def spreadRow (K m : Nat) : List Deed := spreadD (stepsF (placesN m) K 0).reverse [.mask 0 (pressM 64 m m)]
theorem spread_rows_ok (K m : Nat) (hK : K ≤ 6) (hm : m < 2 ^ 2 ^ K) : F_spread_rows [.int (2 ^ K : Nat), .int m] = some (.ow ((spreadRow K m).map enc)) := by
  have hw : 2 ^ K ≤ 64 := Nat.le_trans (Nat.pow_le_pow_right (by decide) hK) (by decide)
  have hsl := stepsF_len (placesN m) K 0
  obtain ⟨t3, e⟩ := spread_rows_loop (.sh (.int (2 ^ K : Nat))) (.sh (.int m)) (stepsF (placesN m) K 0).reverse [.mask 0 (pressM 64 m m)] .un (by rw [List.length_reverse]; simp; omega)
  rw [List.map_reverse] at e
  exact body_rt (r := .ow ((spreadRow K m).map enc)) (δ := [.sh (.int (2 ^ K : Nat)), .sh (.int m), .un, .un]) rfl rfl (seq_nx (set_ow (d := [enc (.mask 0 (pressM 64 m m))]) (lst_of (rs := [.sh (enc (.mask 0 (pressM 64 m m)))]) (evs_cons (r := .sh (enc (.mask 0 (pressM 64 m m)))) (tup_of (rs := [.sh (.str "mask"), .sh (.int 0), .sh (.int (pressM 64 m m : Nat))]) (evs_cons (r := .sh (.str "mask")) rfl (evs_cons (r := .sh (.int 0)) rfl (evs_cons (r := .sh (.int (pressM 64 m m : Nat))) (call_of (rs := [.sh (.int (2 ^ K : Nat)), .sh (.int m), .sh (.int m)]) rfl (pressed_ok (2 ^ K) m m hw hm) rfl) evs_nil))) rfl (by rw [line24]; simp)) evs_nil) rfl (by rw [line24]; simp))) (seq_nx (for_of (iV_of (call_of (r := .ow ((stepsF (placesN m) K 0).map encE)) (rs := [.sh (.int (2 ^ K : Nat)), .sh (.int m)]) rfl (steps_of_ok K m hK hm) rfl) rfl) e) (ret_slot rfl)))
theorem spreadRow_facts (K m : Nat) (hK : K ≤ 6) (hm : m < 2 ^ 2 ^ K) : GoodRow (2 ^ K) (spreadRow K m) ∧ (spreadRow K m).length ≤ 4 * K + 1 ∧ ∀ x, lastV (2 ^ K) (spreadRow K m) x = spreadM 64 m x := by
  have hw : 2 ^ K ≤ 64 := Nat.le_trans (Nat.pow_le_pow_right (by decide) hK) (by decide)
  have hi : Inc 0 (placesN m) := inc_places 64 0 m
  have hpw := places_lt hw hm
  have hsl := stepsF_len (placesN m) K 0
  have hpop : pop 64 m ≤ 2 ^ K := by
    rw [← len_pop 64 0 m]
    have h := placesF_more (2 ^ K) (64 - 2 ^ K) 0 m hm
    rw [show 64 = 2 ^ K + (64 - 2 ^ K) by omega, h]
    exact placesF_len _ _ _
  have hpm : pressM 64 m m < 2 ^ 2 ^ K := Nat.lt_of_lt_of_le (press_le 64 m m) (Nat.pow_le_pow_right (by decide) hpop)
  refine ⟨spreadD_good _ _ (fun e he => stepsF_all hi hpw K 0 (fun k hk => Nat.pow_le_pow_right (by decide) (by omega)) e (List.mem_reverse.mp he)) (fun i d hd => ?_), ?_, fun x => ?_⟩
  · cases i with
    | zero => cases hd; exact ⟨by decide, hpm⟩
    | succ i => simp at hd
  · unfold spreadRow
    rw [spreadD_len, List.length_singleton, List.length_reverse]; omega
  · have h0 : lastV (2 ^ K) [.mask 0 (pressM 64 m m)] x = V (fun j _ => x.testBit j) K 0 (placesN m) := by
      rw [V_endS x K (placesN m) 0 hpw, Nat.pow_zero, Nat.div_one, Nat.mul_one]
      show x &&& pressM 64 m m = _
      rw [press_self, Nat.and_two_pow_sub_one_eq_mod, show (placesN m).length = pop 64 m from len_pop 64 0 m]
    unfold spreadRow
    rw [spread_steps (fun j _ => x.testBit j) hi hpw x K _ h0, ← spreadL_N]
    exact V_startS x 64 0 m 0 (Nat.le_refl _)
end LW
set_option Elab.async false
set_option linter.all false
set_option maxRecDepth 100000
set_option maxHeartbeats 4000000
namespace LW
open PySem L2 BF
set_option linter.unusedSimpArgs false
/-! ### the cells of the second family of laws -/
def cellsOf (ns : List Int) : List Int := (ns.drop 1).take 62 ++ [0, -1]
theorem cells_len (ns : List Int) : (cellsOf ns).length ≤ 64 := by
  unfold cellsOf
  rw [List.length_append, List.length_take]
  simp
  omega
theorem cells_ok (ns : List Int) {δ : List Sl} (h : δ[0]? = some (.sh (.lst (ns.map .int)))) : fCat (fSl (fVar 0) (pSome (fC (.int 1))) (pSome (fC (.int 63)))) (fLst [(fC (.int 0)), (fNeg (fC (.int 1)))]) δ = some (.ow ((cellsOf ns).map .int)) := by
  have hv : fVar 0 δ = some (.sh (.lst (ns.map .int))) := by unfold fVar; rw [h]
  have hs : fSl (fVar 0) (pSome (fC (.int 1))) (pSome (fC (.int 63))) δ = some (.ow (((ns.drop 1).take 62).map .int)) := by
    rw [List.map_take, List.map_drop, ← cut_mid (ns.map .int) 1 63 (by decide)]
    exact sl_of (dt_of hv) rfl rfl
  unfold cellsOf
  rw [List.map_append]
  refine cat_of (dt_of hs) (dt_of (lst_of (rs := [.sh (.int 0), .sh (.int (-1))]) (evs_cons (r := .sh (.int 0)) rfl (evs_cons (r := .sh (.int (-1))) (neg_of (dt_of rfl)) evs_nil)) rfl (by rw [line24]; simp))) ?_
  rw [List.length_map, List.length_take, line24]
  simp
  omega
theorem width_set (ns : List Int) (w : Nat) (ew : F__law_width [.int (ns.getD 0 0)] = some (.sh (.int w))) {δ : List Sl} (h : δ[0]? = some (.sh (.lst (ns.map .int)))) : fCall F__law_width [(fCall F__law_at [(fVar 0), (fC (.int 0))])] δ = some (.sh (.int w)) := by
  have hv : fVar 0 δ = some (.sh (.lst (ns.map .int))) := by unfold fVar; rw [h]
  exact call_of (rs := [.sh (.int (ns.getD 0 0))]) (evs_cons (r := .sh (.int (ns.getD 0 0))) (call_of (rs := [.sh (.lst (ns.map .int)), .sh (.int 0)]) (evs_cons (r := .sh (.lst (ns.map .int))) hv (evs_cons (r := .sh (.int 0)) rfl evs_nil)) (at_ok ns 0) rfl) evs_nil) ew rfl
theorem len_ints (cs : List Int) {δ : List Sl} {i : Nat} (h : δ[i]? = some (.sh (.lst (cs.map .int)))) : fB oLen [fVar i] δ = some (.sh (.int cs.length)) := fB_of (rs := [.sh (.lst (cs.map .int))]) (evs_cons (r := .sh (.lst (cs.map .int))) (by unfold fVar; rw [h]) evs_nil) (by simp [oLen])
theorem int_at (cs : List Int) (k : Nat) (hk : k < cs.length) : atI (cs.map Dm.int) (k : Int) = some (Dm.int cs[k]) := atI_nat (by rw [List.getElem?_map, List.getElem?_eq_getElem hk]; rfl)
/-! ### the law -/
theorem wid_pow {w : Nat} (h : Wid w) : ∃ K, K ≤ 6 ∧ w = 2 ^ K := by
  rcases h with rfl | rfl | rfl | rfl | rfl | rfl | rfl
  · exact ⟨0, by decide, rfl⟩
  · exact ⟨1, by decide, rfl⟩
  · exact ⟨2, by decide, rfl⟩
  · exact ⟨3, by decide, rfl⟩
  · exact ⟨4, by decide, rfl⟩
  · exact ⟨5, by decide, rfl⟩
  · exact ⟨6, by decide, rfl⟩
theorem holds_ok (K m : Nat) (hK : K ≤ 6) (hm : m < 2 ^ 2 ^ K) (ds : List Deed) (hg : GoodRow (2 ^ K) ds) (hl : ds.length ≤ 4 * K + 1) (hv : ∀ x, lastV (2 ^ K) ds x = spreadM 64 m x) (ws : List Nat) (hws : ∀ x ∈ ws, x < 2 ^ 2 ^ K) : F__law_holds [.lst (ds.map enc), .int (2 ^ K : Nat), .int m, .lst (nats ws)] = some (.sh (.bl true)) := by
  have hw : 2 ^ K ≤ 64 := Nat.le_trans (Nat.pow_le_pow_right (by decide) hK) (by decide)
  have hm64 : m < 2 ^ 64 := Nat.lt_of_lt_of_le hm (Nat.pow_le_pow_right (by decide) hw)
  obtain ⟨t, e⟩ := loop_all (i := 4) (b := B__law_holds_1) (δ := [.sh (.lst (ds.map enc)), .sh (.int (2 ^ K : Nat)), .sh (.int m), .sh (.lst (nats ws)), .un]) (nats ws) .un (fun d hd => by
    unfold nats at hd
    obtain ⟨x, hx, rfl⟩ := List.mem_map.mp hd
    have ha := answer2_ok (2 ^ K) hw ds x (hws x hx) hg (by omega)
    rw [hv x] at ha
    have hp := spread_law x m hm64
    rw [spreadL_N] at hp
    exact if_f (bB_of (dt_of (ne_same (d := .int (spreadM 64 m x : Nat)) (dt_of (call_of (rs := [.sh (.int (2 ^ K : Nat)), .sh (.lst (ds.map enc)), .sh (.int x)]) rfl ha rfl)) (dt_of (call_of (rs := [.sh (.int x), .sh (.int m)]) rfl hp rfl)) (okEq_int' _)))) nil_nx)
  exact body_rt (r := (Rs.sh (.bl true)).out) (δ := [.sh (.lst (ds.map enc)), .sh (.int (2 ^ K : Nat)), .sh (.int m), .sh (.lst (nats ws)), .un]) rfl rfl (seq_nx (if_f (not_t (bB_of (dt_of (call_of (rs := [.sh (.lst (ds.map enc)), .sh (.int (2 ^ K : Nat)), .sh (.int (4 * K + 1 : Nat))]) (evs_cons (r := .sh (.lst (ds.map enc))) rfl (evs_cons (r := .sh (.int (2 ^ K : Nat))) rfl (evs_cons (r := .sh (.int (4 * K + 1 : Nat))) (addN (a := 4 * K) (b := 1) (dt_of (mulN (a := 4) (b := K) (dt_of rfl) (dt_of (call_of (rs := [.sh (.int (2 ^ K : Nat))]) rfl (times_ok K (by omega)) rfl)) (by decide))) (dt_of rfl)) evs_nil))) (fine_ok (2 ^ K) (4 * K + 1) hw ds hg hl (by omega)) rfl)))) nil_nx) (seq_nx (for_of (iS_of (r := .sh (.lst (nats ws))) rfl rfl) e) (ret_of rfl)))
theorem words_loop (cs : List Int) (w : Nat) (hw1 : 1 ≤ w) (hw2 : w ≤ 64) (S0 S5 S6 : Sl) (hcl : cs.length ≤ 100) : ∀ (n k : Nat) (xs : List Nat) (s4 : Sl), k + n = cs.length → xs.length + n ≤ 1000 → (∀ x ∈ xs, x < 2 ^ w) → ∃ (ys : List Nat) (t4 : Sl), (∀ x ∈ ys, x < 2 ^ w) ∧ ys.length ≤ 1000 ∧ loopD (.nm 4) B_law_1 ((List.range' k n).map fun (k : Nat) => .int (0 + (k : Int))) [S0, .sh (.int w), .ow (nats xs), .sh (.lst (cs.map .int)), s4, S5, S6] = some (.nx [S0, .sh (.int w), .ow (nats ys), .sh (.lst (cs.map .int)), t4, S5, S6])
  | 0, k, xs, s4, _, hl, hx => ⟨xs, s4, hx, by omega, rfl⟩
  | n + 1, k, xs, s4, hk, hl, hx => by
    have hkc : k < cs.length := by omega
    obtain ⟨x, hx2, ex⟩ := word2_ok cs[k] k w (by omega) hw1 hw2
    obtain ⟨ys, t4, h1, h2, e⟩ := words_loop cs w hw1 hw2 S0 S5 S6 hcl n (k + 1) (xs ++ [x]) (.sh (.int k)) (by omega) (by rw [List.length_append, List.length_singleton]; omega) (fun y hy => (List.mem_append.mp hy).elim (hx y) fun z => by rw [List.mem_singleton.mp z]; exact hx2)
    refine ⟨ys, t4, h1, h2, ?_⟩
    rw [List.range'_succ, List.map_cons]
    refine loop_cons (δ1 := [S0, .sh (.int w), .ow (nats xs), .sh (.lst (cs.map .int)), .sh (.int k), S5, S6]) (by rw [Int.zero_add]; rfl) ?_ e
    have a := app_of (i := 2) (f := fCall F__law_word [(fIx (fVar 3) (fVar 4)), (fVar 4), (fVar 1)]) (δ := [S0, .sh (.int w), .ow (nats xs), .sh (.lst (cs.map .int)), .sh (.int k), S5, S6]) (ds := nats xs) (r := .sh (.int x)) rfl (call_of (rs := [.sh (.int cs[k]), .sh (.int k), .sh (.int w)]) (evs_cons (r := .sh (.int cs[k])) (ix_of (a := .lst (cs.map .int)) (i := (k : Int)) (dt_of rfl) (dt_of rfl) (int_at cs k hkc)) (evs_cons (r := .sh (.int k)) rfl (evs_cons (r := .sh (.int w)) rfl evs_nil))) ex rfl) rfl (by rw [nats_len, line24]; omega)
    refine a.trans ?_
    rw [nats_app]
    rfl
theorem turn_ok (ns cs : List Int) (K : Nat) (hK : K ≤ 6) (ws : List Nat) (hws : ∀ x ∈ ws, x < 2 ^ 2 ^ K) (k : Nat) (hk : k < 3) (s5 s6 : Sl) : ∃ t5 t6,
    B_law_2 [.sh (.lst (ns.map .int)), .sh (.int (2 ^ K : Nat)), .sh (.lst (nats ws)), .sh (.lst (cs.map .int)), .sh (.int k), s5, s6] = some (.nx [.sh (.lst (ns.map .int)), .sh (.int (2 ^ K : Nat)), .sh (.lst (nats ws)), .sh (.lst (cs.map .int)), .sh (.int k), t5, t6]) := by
  have hw : 2 ^ K ≤ 64 := Nat.le_trans (Nat.pow_le_pow_right (by decide) hK) (by decide)
  have hw1 : 1 ≤ 2 ^ K := Nat.two_pow_pos K
  obtain ⟨m, hm, em⟩ := word2_ok (ns.getD 1 0 + cs.sum * ((k % 2 : Nat) : Int)) (90 + k) (2 ^ K) (by omega) hw1 hw
  obtain ⟨rg, rl, rv⟩ := spreadRow_facts K m hK hm
  have rowok := spread_rows_ok K m hK hm
  have hh := holds_ok K m hK hm (spreadRow K m) rg rl rv ws hws
  have hh2 := holds_ok K m hK hm (spreadRow K m) rg rl rv (ws.take (1 + 2 ^ K / 4)) fun x hx => hws x (List.mem_of_mem_take hx)
  have mo : mulOk cs.sum ((k % 2 : Nat) : Int) = true := mulOk_right (by omega) (by omega)
  have sm : ∀ {δ : List Sl}, δ[3]? = some (.sh (.lst (cs.map .int))) → fB oSum [fVar 3] δ = some (.sh (.int cs.sum)) := fun {δ} h => fB_of (rs := [.sh (.lst (cs.map .int))]) (d := .int cs.sum) (evs_cons (r := .sh (.lst (cs.map .int))) (by unfold fVar; rw [h]) evs_nil) (by
    have e := ints_mapA (fun i : Int => i) cs
    rw [List.map_id'] at e
    show (ints? (cs.map fun i => Dm.int i)).map _ = _
    rw [e]; rfl)
  have sl : ∀ {δ : List Sl}, δ[2]? = some (.sh (.lst (nats ws))) → δ[1]? = some (.sh (.int (2 ^ K : Nat))) → fSl (fVar 2) pNo (pSome (op2 oAdd (fC (.int 1)) (op2 oDiv (fVar 1) (fC (.int 4))))) δ = some (.ow (nats (ws.take (1 + 2 ^ K / 4)))) := fun {δ} h2 h1 => by
    rw [show nats (ws.take (1 + 2 ^ K / 4)) = (nats ws).take (1 + 2 ^ K / 4) by unfold nats; rw [List.map_take], ← cut_to (nats ws) (1 + 2 ^ K / 4)]
    exact sl_of (dt_of (r := .sh (.lst (nats ws))) (by unfold fVar; rw [h2])) rfl (part_of (dt_of (addN (a := 1) (b := 2 ^ K / 4) (dt_of rfl) (dt_of (divN (a := 2 ^ K) (b := 4) (dt_of (r := .sh (.int (2 ^ K : Nat))) (by unfold fVar; rw [h1])) (dt_of rfl) (by decide) (by decide))))))
  have rln : (spreadRow K m).length ≤ 1000 := by omega
  refine ⟨.sh (.int m), .ow ((spreadRow K m).map enc ++ [enc (.fix 0)]), seq_nx (set_fz (r := .sh (.int m)) (call_of (rs := [.sh (.int (ns.getD 1 0 + cs.sum * ((k % 2 : Nat) : Int))), .sh (.int (90 + k : Nat)), .sh (.int (2 ^ K : Nat))]) (evs_cons (r := .sh (.int (ns.getD 1 0 + cs.sum * ((k % 2 : Nat) : Int)))) ?_ (evs_cons (r := .sh (.int (90 + k : Nat))) (addN (a := 90) (b := k) (dt_of rfl) (dt_of rfl)) (evs_cons (r := .sh (.int (2 ^ K : Nat))) rfl evs_nil))) em rfl) rfl) (seq_nx (set_ow (d := (spreadRow K m).map enc) (call_of (rs := [.sh (.int (2 ^ K : Nat)), .sh (.int m)]) rfl rowok rfl)) (seq_nx (if_f (not_t (bB_of (dt_of (call_of (rs := [.al 6 ((spreadRow K m).map enc), .sh (.int (2 ^ K : Nat)), .sh (.int m), .sh (.lst (nats ws))]) rfl hh rfl)))) nil_nx) (seq_nx (app_of (i := 6) (ds := (spreadRow K m).map enc) (r := .sh (enc (.fix 0))) rfl (tup_of (rs := [.sh (.str "fix"), .sh (.int 0)]) rfl rfl (by rw [line24]; simp)) rfl (by rw [List.length_map, line24]; omega)) (if_f (not_t (bB_of (dt_of (call_of (rs := [.sh (.lst ((spreadRow K m).map enc)), .sh (.int (2 ^ K : Nat)), .sh (.int m), .sh (.lst (nats (ws.take (1 + 2 ^ K / 4))))]) (evs_cons (r := .ow ((spreadRow K m).map enc)) (call_of (rs := [.sh (.int (2 ^ K : Nat)), .sh (.int m)]) rfl rowok rfl) (evs_cons (r := .sh (.int (2 ^ K : Nat))) rfl (evs_cons (r := .sh (.int m)) rfl (evs_cons (r := .ow (nats (ws.take (1 + 2 ^ K / 4)))) (sl rfl rfl) evs_nil)))) hh2 rfl)))) nil_nx))))⟩
  refine op2_of (a := .int (ns.getD 1 0)) (b := .int (cs.sum * ((k % 2 : Nat) : Int))) (dt_of (call_of (rs := [.sh (.lst (ns.map .int)), .sh (.int (1 : Nat))]) rfl (at_ok ns 1) rfl)) (dt_of (op2_of (a := .int cs.sum) (b := .int (k % 2 : Nat)) (dt_of (sm rfl)) (dt_of (modN (a := k) (b := 2) (dt_of rfl) (dt_of rfl) (by decide))) (by show oI _ _ _ _ = _; rw [oI_int, if_pos mo]))) (by show oI _ _ _ _ = _; rw [oI_int, if_pos rfl])
theorem law_true (ns : List Int) (h : ns.length ≤ 63) (hb : ∀ n ∈ ns, Builtin.Int.intBits n ≤ 1048576) : F_law [.lst (ns.map .int)] = some (.sh (.bl true)) := by
  obtain ⟨w, hW, ew⟩ := width2_ok (ns.getD 0 0)
  obtain ⟨K, hK, rfl⟩ := wid_pow hW
  have hw : 2 ^ K ≤ 64 := Nat.le_trans (Nat.pow_le_pow_right (by decide) hK) (by decide)
  have hw1 : 1 ≤ 2 ^ K := Nat.two_pow_pos K
  have hcl : ((ns.drop 2).take 61).length ≤ 61 := by rw [List.length_take]; omega
  obtain ⟨ys, t4, hys, hyl, e1⟩ := words_loop ((ns.drop 2).take 61) (2 ^ K) hw1 hw (.sh (.lst (ns.map .int))) .un .un (by omega) ((ns.drop 2).take 61).length 0 ([0] ++ (List.range (2 ^ K)).map (2 ^ ·)) .un (by omega) (by rw [List.length_append, List.length_map, List.length_range]; simp; omega) (fun x hx => by
    rcases List.mem_append.mp hx with z | z
    · rw [List.mem_singleton.mp z]; exact Nat.two_pow_pos _
    · obtain ⟨k, hk, rfl⟩ := List.mem_map.mp z
      exact Nat.pow_lt_pow_right (by decide) (List.mem_range.mp hk))
  obtain ⟨δ', e2, _⟩ := loop_inv (t := .nm 4) (b := B_law_2) (fun δ => ∃ s4 s5 s6, δ = [.sh (.lst (ns.map .int)), .sh (.int (2 ^ K : Nat)), .sh (.lst (nats ys)), .sh (.lst (((ns.drop 2).take 61).map .int)), s4, s5, s6]) (rng 0 3) [.sh (.lst (ns.map .int)), .sh (.int (2 ^ K : Nat)), .sh (.lst (nats ys)), .sh (.lst (((ns.drop 2).take 61).map .int)), t4, .un, .un] ⟨_, _, _, rfl⟩ (fun d hd δ hδ => by
    obtain ⟨s4, s5, s6, rfl⟩ := hδ
    unfold rng at hd
    obtain ⟨k, hk, rfl⟩ := List.mem_map.mp hd
    rw [Int.zero_add]
    obtain ⟨t5, t6, e⟩ := turn_ok ns ((ns.drop 2).take 61) K hK ys hys k (List.mem_range.mp hk) s5 s6
    exact ⟨_, _, rfl, e, _, _, _, rfl⟩)
  refine body_rt (r := (Rs.sh (.bl true)).out) (δ := [.sh (.lst (ns.map .int)), .un, .un, .un, .un, .un, .un]) rfl rfl (seq_nx (set_fz (r := .sh (.int (2 ^ K : Nat))) (width_set ns (2 ^ K) ew rfl) rfl) (seq_nx (set_ow (d := nats ([0] ++ (List.range (2 ^ K)).map (2 ^ ·))) ?_) (seq_nx (set_fz (r := .ow (((ns.drop 2).take 61).map .int)) ?_ rfl) (seq_nx (for_of (ds := rng 0 ((ns.drop 2).take 61).length) (iR_of (dt_of (len_ints ((ns.drop 2).take 61) rfl)) (okR_nat (by omega))) (by unfold rng; rw [List.range_eq_range']; exact e1)) ?_))))
  · rw [nats_app]
    refine cat_of (xs := nats [0]) (dt_of (lst_of (rs := [.sh (.int 0)]) rfl rfl (by rw [line24]; simp))) (dt_of (r := .ow (nats ((List.range (2 ^ K)).map (2 ^ ·)))) ?_) (by rw [nats_len, nats_len, line24]; simp; omega)
    unfold nats
    rw [List.map_map]
    exact comp_of (ds := rng 0 (2 ^ K)) (iR_of (dt_of rfl) (okR_nat (by omega))) (by rw [rng_len, line24]; omega) (mapD_rng _ fun k hk => ⟨.sh (.int (2 ^ k : Nat)), shl1 (b := k) (dt_of rfl) (by omega), rfl⟩)
  · rw [List.map_take, List.map_drop, ← cut_mid (ns.map .int) 2 63 (by decide)]
    exact sl_of (dt_of rfl) rfl rfl
  · show gSeq _ _ [.sh (.lst (ns.map .int)), .sh (.int (2 ^ K : Nat)), .sh (.lst (nats ys)), .sh (.lst (((ns.drop 2).take 61).map .int)), t4, .un, .un] = _
    exact seq_nx (for_of (ds := rng 0 3) (iR_of (n := 3) (dt_of rfl) (okR_nat (by decide))) e2) (ret_of (r := .sh (.bl true)) rfl)
end LW
set_option Elab.async false
set_option linter.all false
set_option maxRecDepth 100000
set_option maxHeartbeats 8000000
namespace LW
open PySem L2 BF
/-! ### the text by places -/
def top (i : Nat) : Stmt := PySem.Challenge.pw_bitferry_k43_spread_rows.main.body.getD i (.Pass ⟨0, 0, 0, 0⟩)
abbrev s__law_at : Stmt := top 8
abbrev s__law_value : Stmt := top 15
abbrev s__law_answer : Stmt := top 16
abbrev s__law_whole : Stmt := top 7
abbrev s__law_fine_row : Stmt := top 17
abbrev s__law_fine : Stmt := top 18
abbrev s__law_places : Stmt := top 12
abbrev s__law_spread : Stmt := top 14
abbrev s__law_times : Stmt := top 19
abbrev s__law_holds : Stmt := top 20
abbrev s__law_width : Stmt := top 10
abbrev s__law_mixed : Stmt := top 9
abbrev s__law_word : Stmt := top 11
abbrev s_moving : Stmt := top 5
abbrev s_places_of : Stmt := top 3
abbrev s_pressed : Stmt := top 1
abbrev s_steps_of : Stmt := top 4
abbrev s_spread_rows : Stmt := top 2
abbrev s_law : Stmt := top 21
section
variable {P : Program} {w : World} {K : PySem.W.Frag} {mg : Str → Option Value} {base : Heap}
theorem sc__law_at : FnScope ["_law_script", "_law_k"] ["_law_script", "_law_k"] (defScope s__law_at) := ⟨rfl, rfl, rfl, by decide +kernel, rfl, by decide +kernel, by decide +kernel⟩
theorem ok__law_at {f__law_at : Addr} {fd__law_at : FuncData} (D__law_at : Def1 K mg "_law_at" s__law_at f__law_at fd__law_at ["_law_script", "_law_k"]) (z_len : mg "len" = none) :
    FnOk P w K mg base CX0 1 f__law_at fd__law_at ["_law_script", "_law_k"] (spD K F__law_at) := by
  refine fnD D__law_at.fn sc__law_at fun cdv A outer s H E hr => ?_
  exact (psd_cons (psd_if (pt_lt (pd_var 1) (pd_bi call_len cs_len (by rfl) z_len bo_len (pad_cons (pd_var 0) pad_nil)))
      (psd_one (psd_ret (pd_ix (pd_var 0) (pd_var 1))))
      psd_nil)
      (psd_one (psd_ret pd_int)))
theorem sc__law_value : FnScope ["_law_width_here", "_law_found", "_law_row"] ["_law_width_here", "_law_found", "_law_row"] (defScope s__law_value) := ⟨rfl, rfl, rfl, by decide +kernel, rfl, by decide +kernel, by decide +kernel⟩
theorem ok__law_value {f__law_value : Addr} {fd__law_value : FuncData} (D__law_value : Def1 K mg "_law_value" s__law_value f__law_value fd__law_value ["_law_width_here", "_law_found", "_law_row"]) :
    FnOk P w K mg base CX0 1 f__law_value fd__law_value ["_law_width_here", "_law_found", "_law_row"] (spD K F__law_value) := by
  refine fnD D__law_value.fn sc__law_value fun cdv A outer s H E hr => ?_
  exact (psd_cons (psd_if (pt_eq hr.units (pd_ix (pd_var 2) pd_int) pd_str)
      (psd_one (psd_ret (pd_ix (pd_var 2) pd_int)))
      psd_nil)
      (psd_cons (psd_if (pt_eq hr.units (pd_ix (pd_var 2) pd_int) pd_str)
      (psd_one (psd_ret (pd_band (pd_ix (pd_var 1) (pd_ix (pd_var 2) pd_int)) (pd_ix (pd_var 2) pd_int))))
      psd_nil)
      (psd_cons (psd_if (pt_eq hr.units (pd_ix (pd_var 2) pd_int) pd_str)
      (psd_one (psd_ret (pd_xor (pd_ix (pd_var 1) (pd_ix (pd_var 2) pd_int)) (pd_ix (pd_var 2) pd_int))))
      psd_nil)
      (psd_cons (psd_if (pt_eq hr.units (pd_ix (pd_var 2) pd_int) pd_str)
      (psd_one (psd_ret (pd_xor (pd_ix (pd_var 1) (pd_ix (pd_var 2) pd_int)) (pd_ix (pd_var 1) (pd_ix (pd_var 2) pd_int)))))
      psd_nil)
      (psd_cons (psd_if (pt_eq hr.units (pd_ix (pd_var 2) pd_int) pd_str)
      (psd_one (psd_ret (pd_mod (pd_mul (pd_ix (pd_var 1) (pd_ix (pd_var 2) pd_int)) (pd_shl pd_int (pd_ix (pd_var 2) pd_int))) (pd_shl pd_int (pd_var 0)))))
      psd_nil)
      (psd_one (psd_ret (pd_div (pd_ix (pd_var 1) (pd_ix (pd_var 2) pd_int)) (pd_shl pd_int (pd_ix (pd_var 2) pd_int))))))))))
theorem sc__law_answer : FnScope ["_law_width_here", "_law_rows", "_law_word_here", "_law_found", "_law_row"] ["_law_width_here", "_law_rows", "_law_word_here"] (defScope s__law_answer) := ⟨rfl, rfl, rfl, by decide +kernel, rfl, by decide +kernel, by decide +kernel⟩
theorem ok__law_answer {f__law_answer : Addr} {fd__law_answer : FuncData} (D__law_answer : Def1 K mg "_law_answer" s__law_answer f__law_answer fd__law_answer ["_law_width_here", "_law_rows", "_law_word_here"]) {f__law_value : Addr} {fd__law_value : FuncData} (D__law_value : Def1 K mg "_law_value" s__law_value f__law_value fd__law_value ["_law_width_here", "_law_found", "_law_row"]) (G__law_value : FnOk P w K mg base CX0 1 f__law_value fd__law_value ["_law_width_here", "_law_found", "_law_row"] (spD K F__law_value)) :
    FnOk P w K mg base CX0 2 f__law_answer fd__law_answer ["_law_width_here", "_law_rows", "_law_word_here"] (spD K F__law_answer) := by
  refine fnD D__law_answer.fn sc__law_answer fun cdv A outer s H E hr => ?_
  exact (psd_cons (psd_set (i := 3) sc__law_answer.nd rfl (by first | exact Or.inl rfl | exact Or.inr rfl) (pd_lst (pad_cons (pd_var 2) pad_nil)))
      (psd_cons (psd_for PassesOwn.never rfl (pi_s (pd_var 1)) (pg_n 4 sc__law_answer.nd)
      (psd_one (psd_app 3 (pv 3) (pd_call G__law_value (hr.mono (by decide)) (by rfl) D__law_value.mg D__law_value.fn.kp D__law_value.bi (pad_cons (pd_var 0) (pad_cons (pd_var 3) (pad_cons (pd_var 4) pad_nil)))))))
      (psd_frz [3] (psd_one (psd_ret (pd_ix (pd_var 3) (pd_neg pd_int)))))))
theorem sc__law_whole : FnScope ["_law_found"] ["_law_found"] (defScope s__law_whole) := ⟨rfl, rfl, rfl, by decide +kernel, rfl, by decide +kernel, by decide +kernel⟩
theorem ok__law_whole {f__law_whole : Addr} {fd__law_whole : FuncData} (D__law_whole : Def1 K mg "_law_whole" s__law_whole f__law_whole fd__law_whole ["_law_found"]) (z_bool : mg "bool" = none) (z_int : mg "int" = none) (z_isinstance : mg "isinstance" = none) :
    FnOk P w K mg base CX0 1 f__law_whole fd__law_whole ["_law_found"] (spD K F__law_whole) := by
  refine fnD D__law_whole.fn sc__law_whole fun cdv A outer s H E hr => ?_
  exact (psd_one (psd_ret (pd_and (pd_isi (c := "int") (pd_var 0) (by decide) (by rfl) z_isinstance bo_isinstance (by rfl) z_int bo_int) (pd_one (pd_not (pd_isi (c := "bool") (pd_var 0) (by decide) (by rfl) z_isinstance bo_isinstance (by rfl) z_bool bo_bool))))))
theorem sc__law_fine_row : FnScope ["_law_row", "_law_width_here", "_law_ahead", "_law_part", "_law_top"] ["_law_row", "_law_width_here", "_law_ahead"] (defScope s__law_fine_row) := ⟨rfl, rfl, rfl, by decide +kernel, rfl, by decide +kernel, by decide +kernel⟩
theorem ok__law_fine_row {f__law_fine_row : Addr} {fd__law_fine_row : FuncData} (D__law_fine_row : Def1 K mg "_law_fine_row" s__law_fine_row f__law_fine_row fd__law_fine_row ["_law_row", "_law_width_here", "_law_ahead"]) {f__law_whole : Addr} {fd__law_whole : FuncData} (D__law_whole : Def1 K mg "_law_whole" s__law_whole f__law_whole fd__law_whole ["_law_found"]) (G__law_whole : FnOk P w K mg base CX0 1 f__law_whole fd__law_whole ["_law_found"] (spD K F__law_whole)) (z_isinstance : mg "isinstance" = none) (z_len : mg "len" = none) (z_str : mg "str" = none) (z_tuple : mg "tuple" = none) :
    FnOk P w K mg base CX0 2 f__law_fine_row fd__law_fine_row ["_law_row", "_law_width_here", "_law_ahead"] (spD K F__law_fine_row) := by
  refine fnD D__law_fine_row.fn sc__law_fine_row fun cdv A outer s H E hr => ?_
  exact (psd_cons (psd_if (PWD.t (pwd_or (ptd_not (pt_of (pd_isi (c := "tuple") (pd_var 0) (by decide) (by rfl) z_isinstance bo_isinstance (by rfl) z_tuple bo_tuple))) (pw1_or (ptd_not (pt_of (pd_isi (c := "str") (pd_ix (pd_var 0) pd_int) (by decide) (by rfl) z_isinstance bo_isinstance (by rfl) z_str bo_str))))))
      (psd_one (psd_ret pd_bl))
      psd_nil)
      (psd_cons (psd_for PassesOwn.never rfl (pi_s (pd_sl (pd_var 0) (po_at pd_int) po_no)) (pg_n 3 sc__law_fine_row.nd)
      (psd_one (psd_if (PWD.t (pwd_or (ptd_not (pt_of (pd_call G__law_whole (hr.mono (by decide)) (by rfl) D__law_whole.mg D__law_whole.fn.kp D__law_whole.bi (pad_cons (pd_var 3) pad_nil)))) (pw1_or (pt_lt (pd_var 3) pd_int))))
      (psd_one (psd_ret pd_bl))
      psd_nil)))
      (psd_cons (psd_set (i := 4) sc__law_fine_row.nd rfl (by first | exact Or.inl rfl | exact Or.inr rfl) (pd_sub (pd_shl pd_int (pd_var 1)) pd_int))
      (psd_cons (psd_if (pt_eq hr.units (pd_ix (pd_var 0) pd_int) pd_str)
      (psd_one (psd_ret (pd_and (pd_eq hr.units (pd_bi call_len cs_len (by rfl) z_len bo_len (pad_cons (pd_var 0) pad_nil)) pd_int) (pd_one (pd_le (pd_ix (pd_var 0) pd_int) (pd_var 4))))))
      psd_nil)
      (psd_cons (psd_if (PWD.t (pwd_or (pt_ne hr.units (pd_bi call_len cs_len (by rfl) z_len bo_len (pad_cons (pd_var 0) pad_nil)) pd_int) (pw1_or (pt_ge (pd_ix (pd_var 0) pd_int) (pd_var 2)))))
      (psd_one (psd_ret pd_bl))
      psd_nil)
      (psd_cons (psd_if (pt_eq hr.units (pd_ix (pd_var 0) pd_int) pd_str)
      (psd_one (psd_ret (pd_lt (pd_ix (pd_var 0) pd_int) (pd_var 2))))
      psd_nil)
      (psd_cons (psd_if (pt_in (pd_ix (pd_var 0) pd_int) (pd_lst (pad_cons pd_str (pad_cons pd_str pad_nil))) (by rfl))
      (psd_one (psd_ret (pd_le (pd_ix (pd_var 0) pd_int) (pd_var 1))))
      psd_nil)
      (psd_one (psd_ret (pd_and (pd_in (pd_ix (pd_var 0) pd_int) (pd_lst (pad_cons pd_str (pad_cons pd_str pad_nil))) (by rfl)) (pd_one (pd_le (pd_ix (pd_var 0) pd_int) (pd_var 4)))))))))))))
theorem sc__law_fine : FnScope ["_law_rows", "_law_width_here", "_law_most", "_law_at_here"] ["_law_rows", "_law_width_here", "_law_most"] (defScope s__law_fine) := ⟨rfl, rfl, rfl, by decide +kernel, rfl, by decide +kernel, by decide +kernel⟩
theorem ok__law_fine {f__law_fine : Addr} {fd__law_fine : FuncData} (D__law_fine : Def1 K mg "_law_fine" s__law_fine f__law_fine fd__law_fine ["_law_rows", "_law_width_here", "_law_most"]) {f__law_fine_row : Addr} {fd__law_fine_row : FuncData} (D__law_fine_row : Def1 K mg "_law_fine_row" s__law_fine_row f__law_fine_row fd__law_fine_row ["_law_row", "_law_width_here", "_law_ahead"]) (G__law_fine_row : FnOk P w K mg base CX0 2 f__law_fine_row fd__law_fine_row ["_law_row", "_law_width_here", "_law_ahead"] (spD K F__law_fine_row)) (z_isinstance : mg "isinstance" = none) (z_len : mg "len" = none) (z_list : mg "list" = none) (z_range : mg "range" = none) :
    FnOk P w K mg base CX0 3 f__law_fine fd__law_fine ["_law_rows", "_law_width_here", "_law_most"] (spD K F__law_fine) := by
  refine fnD D__law_fine.fn sc__law_fine fun cdv A outer s H E hr => ?_
  exact (psd_cons (psd_if (PWD.t (pwd_or (ptd_not (pt_of (pd_isi (c := "list") (pd_var 0) (by decide) (by rfl) z_isinstance bo_isinstance (by rfl) z_list bo_list))) (pw1_or (pt_gt (pd_bi call_len cs_len (by rfl) z_len bo_len (pad_cons (pd_var 0) pad_nil)) (pd_var 2)))))
      (psd_one (psd_ret pd_bl))
      psd_nil)
      (psd_cons (psd_for PassesOwn.never rfl (pi_r (pd_bi call_len cs_len (by rfl) z_len bo_len (pad_cons (pd_var 0) pad_nil)) (by rfl) z_range) (pg_n 3 sc__law_fine.nd)
      (psd_one (psd_if (ptd_not (pt_of (pd_call G__law_fine_row (hr.mono (by decide)) (by rfl) D__law_fine_row.mg D__law_fine_row.fn.kp D__law_fine_row.bi (pad_cons (pd_ix (pd_var 0) (pd_var 3)) (pad_cons (pd_var 1) (pad_cons (pd_add (pd_var 3) pd_int) pad_nil))))))
      (psd_one (psd_ret pd_bl))
      psd_nil)))
      (psd_one (psd_ret pd_bl))))
theorem sc__law_places : FnScope ["_law_word_here", "_law_found", "_law_k"] ["_law_word_here"] (defScope s__law_places) := ⟨rfl, rfl, rfl, by decide +kernel, rfl, by decide +kernel, by decide +kernel⟩
theorem ok__law_places {f__law_places : Addr} {fd__law_places : FuncData} (D__law_places : Def1 K mg "_law_places" s__law_places f__law_places fd__law_places ["_law_word_here"]) :
    FnOk P w K mg base CX0 1 f__law_places fd__law_places ["_law_word_here"] (spD K F__law_places) := by
  refine fnD D__law_places.fn sc__law_places fun cdv A outer s H E hr => ?_
  exact (psd_cons (psd_set (i := 1) sc__law_places.nd rfl (by first | exact Or.inl rfl | exact Or.inr rfl) (pd_lst pad_nil))
      (psd_cons (psd_set (i := 2) sc__law_places.nd rfl (by first | exact Or.inl rfl | exact Or.inr rfl) pd_int)
      (psd_cons (psd_while PassesOwn.never (pt_gt (pd_var 0) pd_int)
      (psd_cons (psd_if (pt_eq hr.units (pd_mod (pd_var 0) pd_int) pd_int)
      (psd_one (psd_app 1 (pv 1) (pd_var 2)))
      psd_nil)
      (psd_cons (psd_set (i := 0) sc__law_places.nd rfl (by first | exact Or.inl rfl | exact Or.inr rfl) (pd_div (pd_var 0) pd_int))
      (psd_one (psd_set (i := 2) sc__law_places.nd rfl (by first | exact Or.inl rfl | exact Or.inr rfl) (pd_add (pd_var 2) pd_int))))))
      (psd_one (psd_ret (pd_var 1))))))
theorem sc__law_spread : FnScope ["_law_word_here", "_law_mask", "_law_total", "_law_at_here", "_law_place"] ["_law_word_here", "_law_mask"] (defScope s__law_spread) := ⟨rfl, rfl, rfl, by decide +kernel, rfl, by decide +kernel, by decide +kernel⟩
theorem ok__law_spread {f__law_spread : Addr} {fd__law_spread : FuncData} (D__law_spread : Def1 K mg "_law_spread" s__law_spread f__law_spread fd__law_spread ["_law_word_here", "_law_mask"]) {f__law_places : Addr} {fd__law_places : FuncData} (D__law_places : Def1 K mg "_law_places" s__law_places f__law_places fd__law_places ["_law_word_here"]) (G__law_places : FnOk P w K mg base CX0 1 f__law_places fd__law_places ["_law_word_here"] (spD K F__law_places)) :
    FnOk P w K mg base CX0 2 f__law_spread fd__law_spread ["_law_word_here", "_law_mask"] (spD K F__law_spread) := by
  refine fnD D__law_spread.fn sc__law_spread fun cdv A outer s H E hr => ?_
  exact (psd_cons (psd_set (i := 2) sc__law_spread.nd rfl (by first | exact Or.inl rfl | exact Or.inr rfl) pd_int)
      (psd_cons (psd_set (i := 3) sc__law_spread.nd rfl (by first | exact Or.inl rfl | exact Or.inr rfl) pd_int)
      (psd_cons (psd_for PassesOwn.never rfl (pi_l (pd_call G__law_places (hr.mono (by decide)) (by rfl) D__law_places.mg D__law_places.fn.kp D__law_places.bi (pad_cons (pd_var 1) pad_nil))) (pg_n 4 sc__law_spread.nd)
      (psd_cons (psd_set (i := 2) sc__law_spread.nd rfl (by first | exact Or.inl rfl | exact Or.inr rfl) (pd_add (pd_var 2) (pd_mul (pd_mod (pd_div (pd_var 0) (pd_shl pd_int (pd_var 3))) pd_int) (pd_shl pd_int (pd_var 4)))))
      (psd_one (psd_set (i := 3) sc__law_spread.nd rfl (by first | exact Or.inl rfl | exact Or.inr rfl) (pd_add (pd_var 3) pd_int)))))
      (psd_one (psd_ret (pd_var 2))))))
theorem sc__law_times : FnScope ["_law_width_here", "_law_many"] ["_law_width_here"] (defScope s__law_times) := ⟨rfl, rfl, rfl, by decide +kernel, rfl, by decide +kernel, by decide +kernel⟩
theorem ok__law_times {f__law_times : Addr} {fd__law_times : FuncData} (D__law_times : Def1 K mg "_law_times" s__law_times f__law_times fd__law_times ["_law_width_here"]) :
    FnOk P w K mg base CX0 1 f__law_times fd__law_times ["_law_width_here"] (spD K F__law_times) := by
  refine fnD D__law_times.fn sc__law_times fun cdv A outer s H E hr => ?_
  exact (psd_cons (psd_set (i := 1) sc__law_times.nd rfl (by first | exact Or.inl rfl | exact Or.inr rfl) pd_int)
      (psd_cons (psd_while PassesOwn.never (pt_lt (pd_shl pd_int (pd_var 1)) (pd_var 0))
      (psd_one (psd_set (i := 1) sc__law_times.nd rfl (by first | exact Or.inl rfl | exact Or.inr rfl) (pd_add (pd_var 1) pd_int))))
      (psd_one (psd_ret (pd_var 1)))))
theorem sc__law_holds : FnScope ["_law_rows", "_law_width_here", "_law_mask", "_law_words", "_law_word_here"] ["_law_rows", "_law_width_here", "_law_mask", "_law_words"] (defScope s__law_holds) := ⟨rfl, rfl, rfl, by decide +kernel, rfl, by decide +kernel, by decide +kernel⟩
theorem ok__law_holds {f__law_holds : Addr} {fd__law_holds : FuncData} (D__law_holds : Def1 K mg "_law_holds" s__law_holds f__law_holds fd__law_holds ["_law_rows", "_law_width_here", "_law_mask", "_law_words"]) {f__law_answer : Addr} {fd__law_answer : FuncData} (D__law_answer : Def1 K mg "_law_answer" s__law_answer f__law_answer fd__law_answer ["_law_width_here", "_law_rows", "_law_word_here"]) (G__law_answer : FnOk P w K mg base CX0 2 f__law_answer fd__law_answer ["_law_width_here", "_law_rows", "_law_word_here"] (spD K F__law_answer)) {f__law_fine : Addr} {fd__law_fine : FuncData} (D__law_fine : Def1 K mg "_law_fine" s__law_fine f__law_fine fd__law_fine ["_law_rows", "_law_width_here", "_law_most"]) (G__law_fine : FnOk P w K mg base CX0 3 f__law_fine fd__law_fine ["_law_rows", "_law_width_here", "_law_most"] (spD K F__law_fine)) {f__law_spread : Addr} {fd__law_spread : FuncData} (D__law_spread : Def1 K mg "_law_spread" s__law_spread f__law_spread fd__law_spread ["_law_word_here", "_law_mask"]) (G__law_spread : FnOk P w K mg base CX0 2 f__law_spread fd__law_spread ["_law_word_here", "_law_mask"] (spD K F__law_spread)) {f__law_times : Addr} {fd__law_times : FuncData} (D__law_times : Def1 K mg "_law_times" s__law_times f__law_times fd__law_times ["_law_width_here"]) (G__law_times : FnOk P w K mg base CX0 1 f__law_times fd__law_times ["_law_width_here"] (spD K F__law_times)) :
    FnOk P w K mg base CX0 4 f__law_holds fd__law_holds ["_law_rows", "_law_width_here", "_law_mask", "_law_words"] (spD K F__law_holds) := by
  refine fnD D__law_holds.fn sc__law_holds fun cdv A outer s H E hr => ?_
  exact (psd_cons (psd_if (ptd_not (pt_of (pd_call G__law_fine (hr.mono (by decide)) (by rfl) D__law_fine.mg D__law_fine.fn.kp D__law_fine.bi (pad_cons (pd_var 0) (pad_cons (pd_var 1) (pad_cons (pd_add (pd_mul pd_int (pd_call G__law_times (hr.mono (by decide)) (by rfl) D__law_times.mg D__law_times.fn.kp D__law_times.bi (pad_cons (pd_var 1) pad_nil))) pd_int) pad_nil))))))
      (psd_one (psd_ret pd_bl))
      psd_nil)
      (psd_cons (psd_for PassesOwn.never rfl (pi_s (pd_var 3)) (pg_n 4 sc__law_holds.nd)
      (psd_one (psd_if (pt_ne hr.units (pd_call G__law_answer (hr.mono (by decide)) (by rfl) D__law_answer.mg D__law_answer.fn.kp D__law_answer.bi (pad_cons (pd_var 1) (pad_cons (pd_var 0) (pad_cons (pd_var 4) pad_nil)))) (pd_call G__law_spread (hr.mono (by decide)) (by rfl) D__law_spread.mg D__law_spread.fn.kp D__law_spread.bi (pad_cons (pd_var 4) (pad_cons (pd_var 2) pad_nil))))
      (psd_one (psd_ret pd_bl))
      psd_nil)))
      (psd_one (psd_ret pd_bl))))
theorem sc__law_width : FnScope ["_law_cell"] ["_law_cell"] (defScope s__law_width) := ⟨rfl, rfl, rfl, by decide +kernel, rfl, by decide +kernel, by decide +kernel⟩
theorem ok__law_width {f__law_width : Addr} {fd__law_width : FuncData} (D__law_width : Def1 K mg "_law_width" s__law_width f__law_width fd__law_width ["_law_cell"]) :
    FnOk P w K mg base CX0 1 f__law_width fd__law_width ["_law_cell"] (spD K F__law_width) := by
  refine fnD D__law_width.fn sc__law_width fun cdv A outer s H E hr => ?_
  exact (psd_one (psd_ret (pd_ix (pd_lst (pad_cons pd_int (pad_cons pd_int (pad_cons pd_int (pad_cons pd_int (pad_cons pd_int (pad_cons pd_int (pad_cons pd_int (pad_cons pd_int (pad_cons pd_int (pad_cons pd_int (pad_cons pd_int pad_nil)))))))))))) (pd_mod (pd_var 0) pd_int))))
theorem sc__law_mixed : FnScope ["_law_cell", "_law_k", "_law_number"] ["_law_cell", "_law_k"] (defScope s__law_mixed) := ⟨rfl, rfl, rfl, by decide +kernel, rfl, by decide +kernel, by decide +kernel⟩
theorem ok__law_mixed {f__law_mixed : Addr} {fd__law_mixed : FuncData} (D__law_mixed : Def1 K mg "_law_mixed" s__law_mixed f__law_mixed fd__law_mixed ["_law_cell", "_law_k"]) :
    FnOk P w K mg base CX0 1 f__law_mixed fd__law_mixed ["_law_cell", "_law_k"] (spD K F__law_mixed) := by
  refine fnD D__law_mixed.fn sc__law_mixed fun cdv A outer s H E hr => ?_
  exact (psd_cons (psd_if (pt_ge (pd_var 0) (pd_pow pd_int pd_int))
      (psd_one (psd_ret (pd_mod (pd_div (pd_sub (pd_var 0) (pd_pow pd_int pd_int)) (pd_shl pd_int (pd_mul pd_int (pd_mod (pd_var 1) pd_int)))) (pd_shl pd_int pd_int))))
      psd_nil)
      (psd_cons (psd_set (i := 2) sc__law_mixed.nd rfl (by first | exact Or.inl rfl | exact Or.inr rfl) (pd_mod (pd_add (pd_add (pd_mul (pd_var 0) pd_int) (pd_mul (pd_mul pd_int (pd_var 1)) (pd_var 1))) (pd_var 1)) pd_int))
      (psd_cons (psd_set (i := 2) sc__law_mixed.nd rfl (by first | exact Or.inl rfl | exact Or.inr rfl) (pd_mod (pd_mul (pd_var 2) (pd_var 2)) pd_int))
      (psd_one (psd_ret (pd_mod (pd_mul (pd_var 2) pd_int) pd_int))))))
theorem sc__law_word : FnScope ["_law_cell", "_law_k", "_law_width_here", "_law_number", "_law_some"] ["_law_cell", "_law_k", "_law_width_here"] (defScope s__law_word) := ⟨rfl, rfl, rfl, by decide +kernel, rfl, by decide +kernel, by decide +kernel⟩
theorem ok__law_word {f__law_word : Addr} {fd__law_word : FuncData} (D__law_word : Def1 K mg "_law_word" s__law_word f__law_word fd__law_word ["_law_cell", "_law_k", "_law_width_here"]) {f__law_mixed : Addr} {fd__law_mixed : FuncData} (D__law_mixed : Def1 K mg "_law_mixed" s__law_mixed f__law_mixed fd__law_mixed ["_law_cell", "_law_k"]) (G__law_mixed : FnOk P w K mg base CX0 1 f__law_mixed fd__law_mixed ["_law_cell", "_law_k"] (spD K F__law_mixed)) :
    FnOk P w K mg base CX0 2 f__law_word fd__law_word ["_law_cell", "_law_k", "_law_width_here"] (spD K F__law_word) := by
  refine fnD D__law_word.fn sc__law_word fun cdv A outer s H E hr => ?_
  exact (psd_cons (psd_set (i := 3) sc__law_word.nd rfl (by first | exact Or.inl rfl | exact Or.inr rfl) (pd_add (pd_mul (pd_call G__law_mixed (hr.mono (by decide)) (by rfl) D__law_mixed.mg D__law_mixed.fn.kp D__law_mixed.bi (pad_cons (pd_var 0) (pad_cons (pd_var 1) pad_nil))) pd_int) (pd_call G__law_mixed (hr.mono (by decide)) (by rfl) D__law_mixed.mg D__law_mixed.fn.kp D__law_mixed.bi (pad_cons (pd_var 0) (pad_cons (pd_add (pd_var 1) pd_int) pad_nil)))))
      (psd_cons (psd_set (i := 3) sc__law_word.nd rfl (by first | exact Or.inl rfl | exact Or.inr rfl) (pd_add (pd_mul (pd_var 3) pd_int) (pd_call G__law_mixed (hr.mono (by decide)) (by rfl) D__law_mixed.mg D__law_mixed.fn.kp D__law_mixed.bi (pad_cons (pd_var 0) (pad_cons (pd_add (pd_var 1) pd_int) pad_nil)))))
      (psd_cons (psd_set (i := 4) sc__law_word.nd rfl (by first | exact Or.inl rfl | exact Or.inr rfl) (PD.fz (pd_lst (pad_cons (pd_div (pd_var 3) pd_int) (pad_cons (pd_div (pd_var 3) pd_int) (pad_cons pd_int (pad_cons (pd_neg pd_int) (pad_cons (pd_mod (pd_div (pd_var 3) pd_int) pd_int) (pad_cons (pd_sub (pd_neg pd_int) (pd_mod (pd_div (pd_var 3) pd_int) pd_int)) pad_nil)))))))))
      (psd_cons (psd_set (i := 4) sc__law_word.nd rfl (by first | exact Or.inl rfl | exact Or.inr rfl) (PD.fz (pd_cat (pd_var 4) (pd_lst (pad_cons (pd_shl pd_int (pd_mod (pd_div (pd_var 3) pd_int) (pd_var 2))) (pad_cons (pd_var 0) pad_nil))))))
      (psd_cons (psd_set (i := 3) sc__law_word.nd rfl (by first | exact Or.inl rfl | exact Or.inr rfl) (PD.fz (pd_ix (pd_var 4) (pd_mod (pd_var 3) pd_int))))
      (psd_one (psd_ret (pd_mod (pd_var 3) (pd_shl pd_int (pd_var 2))))))))))
theorem sc_moving : FnScope ["name", "mask", "far", "given"] ["name", "mask", "far", "given"] (defScope s_moving) := ⟨rfl, rfl, rfl, by decide +kernel, rfl, by decide +kernel, by decide +kernel⟩
theorem ok_moving {f_moving : Addr} {fd_moving : FuncData} (D_moving : Def1 K mg "moving" s_moving f_moving fd_moving ["name", "mask", "far", "given"]) :
    FnOk P w K mg base CX0 1 f_moving fd_moving ["name", "mask", "far", "given"] (spD K F_moving) := by
  refine fnD D_moving.fn sc_moving fun cdv A outer s H E hr => ?_
  exact (psd_one (psd_ret (pd_lst (pad_cons (pd_tup (pad_cons pd_str (pad_cons (pd_var 3) (pad_cons (pd_var 1) pad_nil)))) (pad_cons (pd_tup (pad_cons pd_str (pad_cons (pd_var 3) (pad_cons (pd_add (pd_var 3) pd_int) pad_nil)))) (pad_cons (pd_tup (pad_cons (pd_var 0) (pad_cons (pd_add (pd_var 3) pd_int) (pad_cons (pd_var 2) pad_nil)))) (pad_cons (pd_tup (pad_cons pd_str (pad_cons (pd_add (pd_var 3) pd_int) (pad_cons (pd_add (pd_var 3) pd_int) pad_nil)))) pad_nil)))))))
theorem sc_places_of : FnScope ["width", "mask"] ["width", "mask"] (defScope s_places_of) := ⟨rfl, rfl, rfl, by decide +kernel, rfl, by decide +kernel, by decide +kernel⟩
theorem ok_places_of {f_places_of : Addr} {fd_places_of : FuncData} (D_places_of : Def1 K mg "places_of" s_places_of f_places_of fd_places_of ["width", "mask"]) (z_range : mg "range" = none) :
    FnOk P w K mg base CX0 1 f_places_of fd_places_of ["width", "mask"] (spD K F_places_of) := by
  refine fnD D_places_of.fn sc_places_of fun cdv A outer s H E hr => ?_
  exact (psd_one (psd_ret (pd_compI rfl (compOk_mk (N := ["width", "mask"]) (sc := defScope s_places_of) (N' := ["place", "width", "mask"]) (ix := [none, some 0, some 1]) (by decide +kernel)) (inj_of (by decide +kernel)) (own_of (t := (.nm 0)) (by decide +kernel)) (pi_r (pd_var 0) (by rfl) z_range) (fun _ _ _ _ => (pg_n 0 (nd_of (N := ["place", "width", "mask"]) (by decide +kernel)))) (fun _ _ _ _ => (pt_eq hr.units (pd_band (pd_shr (pd_var 2) (pd_var 0)) pd_int) pd_int)) (fun _ _ _ _ => (pd_var 0)))))
theorem sc_pressed : FnScope ["width", "word", "mask", "made", "rank", "place"] ["width", "word", "mask"] (defScope s_pressed) := ⟨rfl, rfl, rfl, by decide +kernel, rfl, by decide +kernel, by decide +kernel⟩
theorem ok_pressed {f_pressed : Addr} {fd_pressed : FuncData} (D_pressed : Def1 K mg "pressed" s_pressed f_pressed fd_pressed ["width", "word", "mask"]) {f_places_of : Addr} {fd_places_of : FuncData} (D_places_of : Def1 K mg "places_of" s_places_of f_places_of fd_places_of ["width", "mask"]) (G_places_of : FnOk P w K mg base CX0 1 f_places_of fd_places_of ["width", "mask"] (spD K F_places_of)) (z_enumerate : mg "enumerate" = none) :
    FnOk P w K mg base CX0 2 f_pressed fd_pressed ["width", "word", "mask"] (spD K F_pressed) := by
  refine fnD D_pressed.fn sc_pressed fun cdv A outer s H E hr => ?_
  exact (psd_cons (psd_set (i := 3) sc_pressed.nd rfl (by first | exact Or.inl rfl | exact Or.inr rfl) pd_int)
      (psd_cons (psd_for PassesOwn.never rfl (pi_e (pd_call G_places_of (hr.mono (by decide)) (by rfl) D_places_of.mg D_places_of.fn.kp D_places_of.bi (pad_cons (pd_var 0) (pad_cons (pd_var 2) pad_nil))) (by rfl) z_enumerate bo_enumerate) (pg_t rfl (pgs_c 4 (pgs_c 5 pgs_n sc_pressed.nd) sc_pressed.nd))
      (psd_one (psd_set (i := 3) sc_pressed.nd rfl (by first | exact Or.inl rfl | exact Or.inr rfl) (pd_bor (pd_var 3) (pd_shl (pd_band (pd_shr (pd_var 1) (pd_var 5)) pd_int) (pd_var 4))))))
      (psd_one (psd_ret (pd_var 3)))))
theorem sc_steps_of : FnScope ["width", "mask", "steps", "places", "far", "falls", "falling"] ["width", "mask"] (defScope s_steps_of) := ⟨rfl, rfl, rfl, by decide +kernel, rfl, by decide +kernel, by decide +kernel⟩
theorem ok_steps_of {f_steps_of : Addr} {fd_steps_of : FuncData} (D_steps_of : Def1 K mg "steps_of" s_steps_of f_steps_of fd_steps_of ["width", "mask"]) {f_places_of : Addr} {fd_places_of : FuncData} (D_places_of : Def1 K mg "places_of" s_places_of f_places_of fd_places_of ["width", "mask"]) (G_places_of : FnOk P w K mg base CX0 1 f_places_of fd_places_of ["width", "mask"] (spD K F_places_of)) (z_enumerate : mg "enumerate" = none) (z_sum : mg "sum" = none) (z_zip : mg "zip" = none) :
    FnOk P w K mg base CX0 2 f_steps_of fd_steps_of ["width", "mask"] (spD K F_steps_of) := by
  refine fnD D_steps_of.fn sc_steps_of fun cdv A outer s H E hr => ?_
  exact (psd_cons (psd_set (i := 2) sc_steps_of.nd rfl (by first | exact Or.inl rfl | exact Or.inr rfl) (pd_lst pad_nil))
      (psd_cons (psd_set (i := 3) sc_steps_of.nd rfl (by first | exact Or.inl rfl | exact Or.inr rfl) (PD.fz (pd_call G_places_of (hr.mono (by decide)) (by rfl) D_places_of.mg D_places_of.fn.kp D_places_of.bi (pad_cons (pd_var 0) (pad_cons (pd_var 1) pad_nil)))))
      (psd_cons (psd_set (i := 4) sc_steps_of.nd rfl (by first | exact Or.inl rfl | exact Or.inr rfl) pd_int)
      (psd_cons (psd_while PassesOwn.never (pt_lt (pd_var 4) (pd_var 0))
      (psd_cons (psd_setCompF rfl (compOk_mk (N := ["width", "mask", "steps", "places", "far", "falls", "falling"]) (sc := defScope s_steps_of) (N' := ["rank", "place", "width", "mask", "steps", "places", "far", "falls", "falling"]) (ix := [none, none, some 0, some 1, some 2, some 3, some 4, some 5, some 6]) (by decide +kernel)) (inj_of (by decide +kernel)) (own_of (t := (.tp [0, 1])) (by decide +kernel)) (pi_e (pd_var 3) (by rfl) z_enumerate bo_enumerate) (fun _ _ _ _ => (pg_t rfl (pgs_c 0 (pgs_c 1 pgs_n (nd_of (N := ["rank", "place", "width", "mask", "steps", "places", "far", "falls", "falling"]) (by decide +kernel))) (nd_of (N := ["rank", "place", "width", "mask", "steps", "places", "far", "falls", "falling"]) (by decide +kernel))))) (fun _ _ _ _ => (pd_band (pd_sub (pd_var 1) (pd_var 0)) (pd_var 6))) sc_steps_of.nd rfl (by first | exact Or.inl rfl | exact Or.inr rfl))
      (psd_cons (psd_set (i := 6) sc_steps_of.nd rfl (by first | exact Or.inl rfl | exact Or.inr rfl) (pd_bi (call_sum rfl) cs_sum (by rfl) z_sum bo_sum (pad_cons (pd_compI rfl (compOk_mk (N := ["width", "mask", "steps", "places", "far", "falls", "falling"]) (sc := defScope s_steps_of) (N' := ["place", "fall", "width", "mask", "steps", "places", "far", "falls", "falling"]) (ix := [none, none, some 0, some 1, some 2, some 3, some 4, some 5, some 6]) (by decide +kernel)) (inj_of (by decide +kernel)) (own_of (t := (.tp [0, 1])) (by decide +kernel)) (pi_z (pd_var 3) (pd_var 5) (by rfl) z_zip bo_zip) (fun _ _ _ _ => (pg_t rfl (pgs_c 0 (pgs_c 1 pgs_n (nd_of (N := ["place", "fall", "width", "mask", "steps", "places", "far", "falls", "falling"]) (by decide +kernel))) (nd_of (N := ["place", "fall", "width", "mask", "steps", "places", "far", "falls", "falling"]) (by decide +kernel))))) (fun _ _ _ _ => (pt_ne hr.units (pd_var 1) pd_int)) (fun _ _ _ _ => (pd_shl pd_int (pd_var 0)))) pad_nil)))
      (psd_cons (psd_if (pt_ne hr.units (pd_var 6) pd_int)
      (psd_one (psd_app 2 (pv 2) (pd_tup (pad_cons (pd_var 6) (pad_cons (pd_var 4) pad_nil)))))
      psd_nil)
      (psd_cons (psd_setCompF rfl (compOk_mk (N := ["width", "mask", "steps", "places", "far", "falls", "falling"]) (sc := defScope s_steps_of) (N' := ["place", "fall", "width", "mask", "steps", "places", "far", "falls", "falling"]) (ix := [none, none, some 0, some 1, some 2, some 3, some 4, some 5, some 6]) (by decide +kernel)) (inj_of (by decide +kernel)) (own_of (t := (.tp [0, 1])) (by decide +kernel)) (pi_z (pd_var 3) (pd_var 5) (by rfl) z_zip bo_zip) (fun _ _ _ _ => (pg_t rfl (pgs_c 0 (pgs_c 1 pgs_n (nd_of (N := ["place", "fall", "width", "mask", "steps", "places", "far", "falls", "falling"]) (by decide +kernel))) (nd_of (N := ["place", "fall", "width", "mask", "steps", "places", "far", "falls", "falling"]) (by decide +kernel))))) (fun _ _ _ _ => (pd_sub (pd_var 0) (pd_var 1))) sc_steps_of.nd rfl (by first | exact Or.inl rfl | exact Or.inr rfl))
      (psd_one (psd_set (i := 4) sc_steps_of.nd rfl (by first | exact Or.inl rfl | exact Or.inr rfl) (pd_mul pd_int (pd_var 4)))))))))
      (psd_one (psd_ret (pd_var 2)))))))
theorem sc_spread_rows : FnScope ["width", "mask", "rows", "step"] ["width", "mask"] (defScope s_spread_rows) := ⟨rfl, rfl, rfl, by decide +kernel, rfl, by decide +kernel, by decide +kernel⟩
theorem ok_spread_rows {f_spread_rows : Addr} {fd_spread_rows : FuncData} (D_spread_rows : Def1 K mg "spread_rows" s_spread_rows f_spread_rows fd_spread_rows ["width", "mask"]) {f_moving : Addr} {fd_moving : FuncData} (D_moving : Def1 K mg "moving" s_moving f_moving fd_moving ["name", "mask", "far", "given"]) (G_moving : FnOk P w K mg base CX0 1 f_moving fd_moving ["name", "mask", "far", "given"] (spD K F_moving)) {f_pressed : Addr} {fd_pressed : FuncData} (D_pressed : Def1 K mg "pressed" s_pressed f_pressed fd_pressed ["width", "word", "mask"]) (G_pressed : FnOk P w K mg base CX0 2 f_pressed fd_pressed ["width", "word", "mask"] (spD K F_pressed)) {f_steps_of : Addr} {fd_steps_of : FuncData} (D_steps_of : Def1 K mg "steps_of" s_steps_of f_steps_of fd_steps_of ["width", "mask"]) (G_steps_of : FnOk P w K mg base CX0 2 f_steps_of fd_steps_of ["width", "mask"] (spD K F_steps_of)) (z_len : mg "len" = none) (z_reversed : mg "reversed" = none) :
    FnOk P w K mg base CX0 3 f_spread_rows fd_spread_rows ["width", "mask"] (spD K F_spread_rows) := by
  refine fnD D_spread_rows.fn sc_spread_rows fun cdv A outer s H E hr => ?_
  exact (psd_cons (psd_set (i := 2) sc_spread_rows.nd rfl (by first | exact Or.inl rfl | exact Or.inr rfl) (pd_lst (pad_cons (pd_tup (pad_cons pd_str (pad_cons pd_int (pad_cons (pd_call G_pressed (hr.mono (by decide)) (by rfl) D_pressed.mg D_pressed.fn.kp D_pressed.bi (pad_cons (pd_var 0) (pad_cons (pd_var 1) (pad_cons (pd_var 1) pad_nil)))) pad_nil)))) pad_nil)))
      (psd_cons (psd_for PassesOwn.never rfl (pi_v (pd_call G_steps_of (hr.mono (by decide)) (by rfl) D_steps_of.mg D_steps_of.fn.kp D_steps_of.bi (pad_cons (pd_var 0) (pad_cons (pd_var 1) pad_nil))) (by rfl) z_reversed bo_reversed) (pg_n 3 sc_spread_rows.nd)
      (psd_one (psd_set (i := 2) sc_spread_rows.nd rfl (by first | exact Or.inl rfl | exact Or.inr rfl) (pd_cat (pd_var 2) (pd_call G_moving (hr.mono (by decide)) (by rfl) D_moving.mg D_moving.fn.kp D_moving.bi (pad_cons pd_str (pad_cons (pd_shr (pd_ix (pd_var 3) pd_int) (pd_ix (pd_var 3) pd_int)) (pad_cons (pd_ix (pd_var 3) pd_int) (pad_cons (pd_bi call_len cs_len (by rfl) z_len bo_len (pad_cons (pd_var 2) pad_nil)) pad_nil)))))))))
      (psd_one (psd_ret (pd_var 2)))))
theorem sc_law : FnScope ["_law_script", "_law_width_here", "_law_words", "_law_cells", "_law_k", "_law_mask", "_law_found"] ["_law_script"] (defScope s_law) := ⟨rfl, rfl, rfl, by decide +kernel, rfl, by decide +kernel, by decide +kernel⟩
theorem ok_law {f_law : Addr} {fd_law : FuncData} (D_law : Def1 K mg "law" s_law f_law fd_law ["_law_script"]) {f__law_at : Addr} {fd__law_at : FuncData} (D__law_at : Def1 K mg "_law_at" s__law_at f__law_at fd__law_at ["_law_script", "_law_k"]) (G__law_at : FnOk P w K mg base CX0 1 f__law_at fd__law_at ["_law_script", "_law_k"] (spD K F__law_at)) {f__law_holds : Addr} {fd__law_holds : FuncData} (D__law_holds : Def1 K mg "_law_holds" s__law_holds f__law_holds fd__law_holds ["_law_rows", "_law_width_here", "_law_mask", "_law_words"]) (G__law_holds : FnOk P w K mg base CX0 4 f__law_holds fd__law_holds ["_law_rows", "_law_width_here", "_law_mask", "_law_words"] (spD K F__law_holds)) {f__law_width : Addr} {fd__law_width : FuncData} (D__law_width : Def1 K mg "_law_width" s__law_width f__law_width fd__law_width ["_law_cell"]) (G__law_width : FnOk P w K mg base CX0 1 f__law_width fd__law_width ["_law_cell"] (spD K F__law_width)) {f__law_word : Addr} {fd__law_word : FuncData} (D__law_word : Def1 K mg "_law_word" s__law_word f__law_word fd__law_word ["_law_cell", "_law_k", "_law_width_here"]) (G__law_word : FnOk P w K mg base CX0 2 f__law_word fd__law_word ["_law_cell", "_law_k", "_law_width_here"] (spD K F__law_word)) {f_spread_rows : Addr} {fd_spread_rows : FuncData} (D_spread_rows : Def1 K mg "spread_rows" s_spread_rows f_spread_rows fd_spread_rows ["width", "mask"]) (G_spread_rows : FnOk P w K mg base CX0 3 f_spread_rows fd_spread_rows ["width", "mask"] (spD K F_spread_rows)) (z_len : mg "len" = none) (z_range : mg "range" = none) (z_sum : mg "sum" = none) :
    FnOk P w K mg base CX0 5 f_law fd_law ["_law_script"] (spD K F_law) := by
  refine fnD D_law.fn sc_law fun cdv A outer s H E hr => ?_
  exact (psd_cons (psd_set (i := 1) sc_law.nd rfl (by first | exact Or.inl rfl | exact Or.inr rfl) (PD.fz (pd_call G__law_width (hr.mono (by decide)) (by rfl) D__law_width.mg D__law_width.fn.kp D__law_width.bi (pad_cons (pd_call G__law_at (hr.mono (by decide)) (by rfl) D__law_at.mg D__law_at.fn.kp D__law_at.bi (pad_cons (pd_var 0) (pad_cons pd_int pad_nil))) pad_nil))))
      (psd_cons (psd_set (i := 2) sc_law.nd rfl (by first | exact Or.inl rfl | exact Or.inr rfl) (pd_cat (pd_lst (pad_cons pd_int pad_nil)) (pd_comp rfl (compOk_mk (N := ["_law_script", "_law_width_here", "_law_words", "_law_cells", "_law_k", "_law_mask", "_law_found"]) (sc := defScope s_law) (N' := ["_law_k", "_law_script", "_law_width_here", "_law_words", "_law_cells", "_law_mask", "_law_found"]) (ix := [none, some 0, some 1, some 2, some 3, some 5, some 6]) (by decide +kernel)) (inj_of (by decide +kernel)) (own_of (t := (.nm 0)) (by decide +kernel)) (pi_r (pd_var 1) (by rfl) z_range) (fun _ _ _ _ => (pg_n 0 (nd_of (N := ["_law_k", "_law_script", "_law_width_here", "_law_words", "_law_cells", "_law_mask", "_law_found"]) (by decide +kernel)))) (fun _ _ _ _ => (pd_shl pd_int (pd_var 0))))))
      (psd_cons (psd_set (i := 3) sc_law.nd rfl (by first | exact Or.inl rfl | exact Or.inr rfl) (PD.fz (pd_sl (pd_var 0) (po_at pd_int) (po_at pd_int))))
      (psd_cons (psd_for PassesOwn.never rfl (pi_r (pd_bi call_len cs_len (by rfl) z_len bo_len (pad_cons (pd_var 3) pad_nil)) (by rfl) z_range) (pg_n 4 sc_law.nd)
      (psd_one (psd_app 2 (pv 2) (pd_call G__law_word (hr.mono (by decide)) (by rfl) D__law_word.mg D__law_word.fn.kp D__law_word.bi (pad_cons (pd_ix (pd_var 3) (pd_var 4)) (pad_cons (pd_var 4) (pad_cons (pd_var 1) pad_nil)))))))
      (psd_frz [2] (psd_cons (psd_for PassesOwn.never rfl (pi_r pd_int (by rfl) z_range) (pg_n 4 sc_law.nd)
      (psd_cons (psd_set (i := 5) sc_law.nd rfl (by first | exact Or.inl rfl | exact Or.inr rfl) (PD.fz (pd_call G__law_word (hr.mono (by decide)) (by rfl) D__law_word.mg D__law_word.fn.kp D__law_word.bi (pad_cons (pd_add (pd_call G__law_at (hr.mono (by decide)) (by rfl) D__law_at.mg D__law_at.fn.kp D__law_at.bi (pad_cons (pd_var 0) (pad_cons pd_int pad_nil))) (pd_mul (pd_bi (call_sum rfl) cs_sum (by rfl) z_sum bo_sum (pad_cons (pd_var 3) pad_nil)) (pd_mod (pd_var 4) pd_int))) (pad_cons (pd_add pd_int (pd_var 4)) (pad_cons (pd_var 1) pad_nil))))))
      (psd_cons (psd_set (i := 6) sc_law.nd rfl (by first | exact Or.inl rfl | exact Or.inr rfl) (pd_call G_spread_rows (hr.mono (by decide)) (by rfl) D_spread_rows.mg D_spread_rows.fn.kp D_spread_rows.bi (pad_cons (pd_var 1) (pad_cons (pd_var 5) pad_nil))))
      (psd_cons (psd_if (ptd_not (pt_of (pd_call G__law_holds (hr.mono (by decide)) (by rfl) D__law_holds.mg D__law_holds.fn.kp D__law_holds.bi (pad_cons (pd_var 6) (pad_cons (pd_var 1) (pad_cons (pd_var 5) (pad_cons (pd_var 2) pad_nil)))))))
      (psd_one (psd_ret pd_bl))
      psd_nil)
      (psd_cons (psd_app 6 (pv 6) (pd_tup (pad_cons pd_str (pad_cons pd_int pad_nil))))
      (psd_one (psd_if (ptd_not (pt_of (pd_call G__law_holds (hr.mono (by decide)) (by rfl) D__law_holds.mg D__law_holds.fn.kp D__law_holds.bi (pad_cons (pd_call G_spread_rows (hr.mono (by decide)) (by rfl) D_spread_rows.mg D_spread_rows.fn.kp D_spread_rows.bi (pad_cons (pd_var 1) (pad_cons (pd_var 5) pad_nil))) (pad_cons (pd_var 1) (pad_cons (pd_var 5) (pad_cons (pd_sl (pd_var 2) po_no (po_at (pd_add pd_int (pd_div (pd_var 1) pd_int)))) pad_nil)))))))
      (psd_one (psd_ret pd_bl))
      psd_nil)))))))
      (psd_frz [6] (psd_one (psd_ret pd_bl)))))))))
theorem ok_all {f__law_at : Addr} {fd__law_at : FuncData} (D__law_at : Def1 K mg "_law_at" s__law_at f__law_at fd__law_at ["_law_script", "_law_k"]) {f__law_value : Addr} {fd__law_value : FuncData} (D__law_value : Def1 K mg "_law_value" s__law_value f__law_value fd__law_value ["_law_width_here", "_law_found", "_law_row"]) {f__law_answer : Addr} {fd__law_answer : FuncData} (D__law_answer : Def1 K mg "_law_answer" s__law_answer f__law_answer fd__law_answer ["_law_width_here", "_law_rows", "_law_word_here"]) {f__law_whole : Addr} {fd__law_whole : FuncData} (D__law_whole : Def1 K mg "_law_whole" s__law_whole f__law_whole fd__law_whole ["_law_found"]) {f__law_fine_row : Addr} {fd__law_fine_row : FuncData} (D__law_fine_row : Def1 K mg "_law_fine_row" s__law_fine_row f__law_fine_row fd__law_fine_row ["_law_row", "_law_width_here", "_law_ahead"]) {f__law_fine : Addr} {fd__law_fine : FuncData} (D__law_fine : Def1 K mg "_law_fine" s__law_fine f__law_fine fd__law_fine ["_law_rows", "_law_width_here", "_law_most"]) {f__law_places : Addr} {fd__law_places : FuncData} (D__law_places : Def1 K mg "_law_places" s__law_places f__law_places fd__law_places ["_law_word_here"]) {f__law_spread : Addr} {fd__law_spread : FuncData} (D__law_spread : Def1 K mg "_law_spread" s__law_spread f__law_spread fd__law_spread ["_law_word_here", "_law_mask"]) {f__law_times : Addr} {fd__law_times : FuncData} (D__law_times : Def1 K mg "_law_times" s__law_times f__law_times fd__law_times ["_law_width_here"]) {f__law_holds : Addr} {fd__law_holds : FuncData} (D__law_holds : Def1 K mg "_law_holds" s__law_holds f__law_holds fd__law_holds ["_law_rows", "_law_width_here", "_law_mask", "_law_words"]) {f__law_width : Addr} {fd__law_width : FuncData} (D__law_width : Def1 K mg "_law_width" s__law_width f__law_width fd__law_width ["_law_cell"]) {f__law_mixed : Addr} {fd__law_mixed : FuncData} (D__law_mixed : Def1 K mg "_law_mixed" s__law_mixed f__law_mixed fd__law_mixed ["_law_cell", "_law_k"]) {f__law_word : Addr} {fd__law_word : FuncData} (D__law_word : Def1 K mg "_law_word" s__law_word f__law_word fd__law_word ["_law_cell", "_law_k", "_law_width_here"]) {f_moving : Addr} {fd_moving : FuncData} (D_moving : Def1 K mg "moving" s_moving f_moving fd_moving ["name", "mask", "far", "given"]) {f_places_of : Addr} {fd_places_of : FuncData} (D_places_of : Def1 K mg "places_of" s_places_of f_places_of fd_places_of ["width", "mask"]) {f_pressed : Addr} {fd_pressed : FuncData} (D_pressed : Def1 K mg "pressed" s_pressed f_pressed fd_pressed ["width", "word", "mask"]) {f_steps_of : Addr} {fd_steps_of : FuncData} (D_steps_of : Def1 K mg "steps_of" s_steps_of f_steps_of fd_steps_of ["width", "mask"]) {f_spread_rows : Addr} {fd_spread_rows : FuncData} (D_spread_rows : Def1 K mg "spread_rows" s_spread_rows f_spread_rows fd_spread_rows ["width", "mask"]) {f_law : Addr} {fd_law : FuncData} (D_law : Def1 K mg "law" s_law f_law fd_law ["_law_script"]) (z_bool : mg "bool" = none) (z_enumerate : mg "enumerate" = none) (z_int : mg "int" = none) (z_isinstance : mg "isinstance" = none) (z_len : mg "len" = none) (z_list : mg "list" = none) (z_range : mg "range" = none) (z_reversed : mg "reversed" = none) (z_str : mg "str" = none) (z_sum : mg "sum" = none) (z_tuple : mg "tuple" = none) (z_zip : mg "zip" = none) :
    FnOk P w K mg base CX0 5 f_law fd_law ["_law_script"] (spD K F_law) := by
  have G__law_at := ok__law_at (P := P) (w := w) (base := base) D__law_at z_len
  have G__law_value := ok__law_value (P := P) (w := w) (base := base) D__law_value
  have G__law_answer := ok__law_answer (P := P) (w := w) (base := base) D__law_answer D__law_value G__law_value
  have G__law_whole := ok__law_whole (P := P) (w := w) (base := base) D__law_whole z_bool z_int z_isinstance
  have G__law_fine_row := ok__law_fine_row (P := P) (w := w) (base := base) D__law_fine_row D__law_whole G__law_whole z_isinstance z_len z_str z_tuple
  have G__law_fine := ok__law_fine (P := P) (w := w) (base := base) D__law_fine D__law_fine_row G__law_fine_row z_isinstance z_len z_list z_range
  have G__law_places := ok__law_places (P := P) (w := w) (base := base) D__law_places
  have G__law_spread := ok__law_spread (P := P) (w := w) (base := base) D__law_spread D__law_places G__law_places
  have G__law_times := ok__law_times (P := P) (w := w) (base := base) D__law_times
  have G__law_holds := ok__law_holds (P := P) (w := w) (base := base) D__law_holds D__law_answer G__law_answer D__law_fine G__law_fine D__law_spread G__law_spread D__law_times G__law_times
  have G__law_width := ok__law_width (P := P) (w := w) (base := base) D__law_width
  have G__law_mixed := ok__law_mixed (P := P) (w := w) (base := base) D__law_mixed
  have G__law_word := ok__law_word (P := P) (w := w) (base := base) D__law_word D__law_mixed G__law_mixed
  have G_moving := ok_moving (P := P) (w := w) (base := base) D_moving
  have G_places_of := ok_places_of (P := P) (w := w) (base := base) D_places_of z_range
  have G_pressed := ok_pressed (P := P) (w := w) (base := base) D_pressed D_places_of G_places_of z_enumerate
  have G_steps_of := ok_steps_of (P := P) (w := w) (base := base) D_steps_of D_places_of G_places_of z_enumerate z_sum z_zip
  have G_spread_rows := ok_spread_rows (P := P) (w := w) (base := base) D_spread_rows D_moving G_moving D_pressed G_pressed D_steps_of G_steps_of z_len z_reversed
  exact ok_law D_law D__law_at G__law_at D__law_holds G__law_holds D__law_width G__law_width D__law_word G__law_word D_spread_rows G_spread_rows z_len z_range z_sum
end
theorem all_mk {l : PySem.W.OpenLaw} {w : World} {K : PySem.W.Frag} {h : Heap} {mg : Str → Option Value} {fa : Addr} (X : K.In h) (G : h.Ns mainGlobals mg) (hfa : mg "law" = some (.ref fa))
    {f__law_at : Addr} {oc__law_at kV__law_at dc__law_at pm__law_at cd__law_at ct__law_at : Value} {od__law_at an__law_at : Option Addr} {sl__law_at : Array (Option Value)} (a__law_at : PySem.W.nsIn K mainGlobals "_law_at" = some (some (.ref f__law_at))) (l__law_at : K.lookup f__law_at = some ⟨oc__law_at, od__law_at, .func (PySem.W.fnOf "_law_at" "_law_at" (defArgs s__law_at) (defBody s__law_at) (defScope s__law_at) .none kV__law_at dc__law_at pm__law_at an__law_at cd__law_at ct__law_at), sl__law_at⟩) (c__law_at : PySem.W.codeIn K cd__law_at "_law_at" = true) (k__law_at : PySem.W.keepIn K (.ref f__law_at) = true)
    {f__law_value : Addr} {oc__law_value kV__law_value dc__law_value pm__law_value cd__law_value ct__law_value : Value} {od__law_value an__law_value : Option Addr} {sl__law_value : Array (Option Value)} (a__law_value : PySem.W.nsIn K mainGlobals "_law_value" = some (some (.ref f__law_value))) (l__law_value : K.lookup f__law_value = some ⟨oc__law_value, od__law_value, .func (PySem.W.fnOf "_law_value" "_law_value" (defArgs s__law_value) (defBody s__law_value) (defScope s__law_value) .none kV__law_value dc__law_value pm__law_value an__law_value cd__law_value ct__law_value), sl__law_value⟩) (c__law_value : PySem.W.codeIn K cd__law_value "_law_value" = true) (k__law_value : PySem.W.keepIn K (.ref f__law_value) = true)
    {f__law_answer : Addr} {oc__law_answer kV__law_answer dc__law_answer pm__law_answer cd__law_answer ct__law_answer : Value} {od__law_answer an__law_answer : Option Addr} {sl__law_answer : Array (Option Value)} (a__law_answer : PySem.W.nsIn K mainGlobals "_law_answer" = some (some (.ref f__law_answer))) (l__law_answer : K.lookup f__law_answer = some ⟨oc__law_answer, od__law_answer, .func (PySem.W.fnOf "_law_answer" "_law_answer" (defArgs s__law_answer) (defBody s__law_answer) (defScope s__law_answer) .none kV__law_answer dc__law_answer pm__law_answer an__law_answer cd__law_answer ct__law_answer), sl__law_answer⟩) (c__law_answer : PySem.W.codeIn K cd__law_answer "_law_answer" = true) (k__law_answer : PySem.W.keepIn K (.ref f__law_answer) = true)
    {f__law_whole : Addr} {oc__law_whole kV__law_whole dc__law_whole pm__law_whole cd__law_whole ct__law_whole : Value} {od__law_whole an__law_whole : Option Addr} {sl__law_whole : Array (Option Value)} (a__law_whole : PySem.W.nsIn K mainGlobals "_law_whole" = some (some (.ref f__law_whole))) (l__law_whole : K.lookup f__law_whole = some ⟨oc__law_whole, od__law_whole, .func (PySem.W.fnOf "_law_whole" "_law_whole" (defArgs s__law_whole) (defBody s__law_whole) (defScope s__law_whole) .none kV__law_whole dc__law_whole pm__law_whole an__law_whole cd__law_whole ct__law_whole), sl__law_whole⟩) (c__law_whole : PySem.W.codeIn K cd__law_whole "_law_whole" = true) (k__law_whole : PySem.W.keepIn K (.ref f__law_whole) = true)
    {f__law_fine_row : Addr} {oc__law_fine_row kV__law_fine_row dc__law_fine_row pm__law_fine_row cd__law_fine_row ct__law_fine_row : Value} {od__law_fine_row an__law_fine_row : Option Addr} {sl__law_fine_row : Array (Option Value)} (a__law_fine_row : PySem.W.nsIn K mainGlobals "_law_fine_row" = some (some (.ref f__law_fine_row))) (l__law_fine_row : K.lookup f__law_fine_row = some ⟨oc__law_fine_row, od__law_fine_row, .func (PySem.W.fnOf "_law_fine_row" "_law_fine_row" (defArgs s__law_fine_row) (defBody s__law_fine_row) (defScope s__law_fine_row) .none kV__law_fine_row dc__law_fine_row pm__law_fine_row an__law_fine_row cd__law_fine_row ct__law_fine_row), sl__law_fine_row⟩) (c__law_fine_row : PySem.W.codeIn K cd__law_fine_row "_law_fine_row" = true) (k__law_fine_row : PySem.W.keepIn K (.ref f__law_fine_row) = true)
    {f__law_fine : Addr} {oc__law_fine kV__law_fine dc__law_fine pm__law_fine cd__law_fine ct__law_fine : Value} {od__law_fine an__law_fine : Option Addr} {sl__law_fine : Array (Option Value)} (a__law_fine : PySem.W.nsIn K mainGlobals "_law_fine" = some (some (.ref f__law_fine))) (l__law_fine : K.lookup f__law_fine = some ⟨oc__law_fine, od__law_fine, .func (PySem.W.fnOf "_law_fine" "_law_fine" (defArgs s__law_fine) (defBody s__law_fine) (defScope s__law_fine) .none kV__law_fine dc__law_fine pm__law_fine an__law_fine cd__law_fine ct__law_fine), sl__law_fine⟩) (c__law_fine : PySem.W.codeIn K cd__law_fine "_law_fine" = true) (k__law_fine : PySem.W.keepIn K (.ref f__law_fine) = true)
    {f__law_places : Addr} {oc__law_places kV__law_places dc__law_places pm__law_places cd__law_places ct__law_places : Value} {od__law_places an__law_places : Option Addr} {sl__law_places : Array (Option Value)} (a__law_places : PySem.W.nsIn K mainGlobals "_law_places" = some (some (.ref f__law_places))) (l__law_places : K.lookup f__law_places = some ⟨oc__law_places, od__law_places, .func (PySem.W.fnOf "_law_places" "_law_places" (defArgs s__law_places) (defBody s__law_places) (defScope s__law_places) .none kV__law_places dc__law_places pm__law_places an__law_places cd__law_places ct__law_places), sl__law_places⟩) (c__law_places : PySem.W.codeIn K cd__law_places "_law_places" = true) (k__law_places : PySem.W.keepIn K (.ref f__law_places) = true)
    {f__law_spread : Addr} {oc__law_spread kV__law_spread dc__law_spread pm__law_spread cd__law_spread ct__law_spread : Value} {od__law_spread an__law_spread : Option Addr} {sl__law_spread : Array (Option Value)} (a__law_spread : PySem.W.nsIn K mainGlobals "_law_spread" = some (some (.ref f__law_spread))) (l__law_spread : K.lookup f__law_spread = some ⟨oc__law_spread, od__law_spread, .func (PySem.W.fnOf "_law_spread" "_law_spread" (defArgs s__law_spread) (defBody s__law_spread) (defScope s__law_spread) .none kV__law_spread dc__law_spread pm__law_spread an__law_spread cd__law_spread ct__law_spread), sl__law_spread⟩) (c__law_spread : PySem.W.codeIn K cd__law_spread "_law_spread" = true) (k__law_spread : PySem.W.keepIn K (.ref f__law_spread) = true)
    {f__law_times : Addr} {oc__law_times kV__law_times dc__law_times pm__law_times cd__law_times ct__law_times : Value} {od__law_times an__law_times : Option Addr} {sl__law_times : Array (Option Value)} (a__law_times : PySem.W.nsIn K mainGlobals "_law_times" = some (some (.ref f__law_times))) (l__law_times : K.lookup f__law_times = some ⟨oc__law_times, od__law_times, .func (PySem.W.fnOf "_law_times" "_law_times" (defArgs s__law_times) (defBody s__law_times) (defScope s__law_times) .none kV__law_times dc__law_times pm__law_times an__law_times cd__law_times ct__law_times), sl__law_times⟩) (c__law_times : PySem.W.codeIn K cd__law_times "_law_times" = true) (k__law_times : PySem.W.keepIn K (.ref f__law_times) = true)
    {f__law_holds : Addr} {oc__law_holds kV__law_holds dc__law_holds pm__law_holds cd__law_holds ct__law_holds : Value} {od__law_holds an__law_holds : Option Addr} {sl__law_holds : Array (Option Value)} (a__law_holds : PySem.W.nsIn K mainGlobals "_law_holds" = some (some (.ref f__law_holds))) (l__law_holds : K.lookup f__law_holds = some ⟨oc__law_holds, od__law_holds, .func (PySem.W.fnOf "_law_holds" "_law_holds" (defArgs s__law_holds) (defBody s__law_holds) (defScope s__law_holds) .none kV__law_holds dc__law_holds pm__law_holds an__law_holds cd__law_holds ct__law_holds), sl__law_holds⟩) (c__law_holds : PySem.W.codeIn K cd__law_holds "_law_holds" = true) (k__law_holds : PySem.W.keepIn K (.ref f__law_holds) = true)
    {f__law_width : Addr} {oc__law_width kV__law_width dc__law_width pm__law_width cd__law_width ct__law_width : Value} {od__law_width an__law_width : Option Addr} {sl__law_width : Array (Option Value)} (a__law_width : PySem.W.nsIn K mainGlobals "_law_width" = some (some (.ref f__law_width))) (l__law_width : K.lookup f__law_width = some ⟨oc__law_width, od__law_width, .func (PySem.W.fnOf "_law_width" "_law_width" (defArgs s__law_width) (defBody s__law_width) (defScope s__law_width) .none kV__law_width dc__law_width pm__law_width an__law_width cd__law_width ct__law_width), sl__law_width⟩) (c__law_width : PySem.W.codeIn K cd__law_width "_law_width" = true) (k__law_width : PySem.W.keepIn K (.ref f__law_width) = true)
    {f__law_mixed : Addr} {oc__law_mixed kV__law_mixed dc__law_mixed pm__law_mixed cd__law_mixed ct__law_mixed : Value} {od__law_mixed an__law_mixed : Option Addr} {sl__law_mixed : Array (Option Value)} (a__law_mixed : PySem.W.nsIn K mainGlobals "_law_mixed" = some (some (.ref f__law_mixed))) (l__law_mixed : K.lookup f__law_mixed = some ⟨oc__law_mixed, od__law_mixed, .func (PySem.W.fnOf "_law_mixed" "_law_mixed" (defArgs s__law_mixed) (defBody s__law_mixed) (defScope s__law_mixed) .none kV__law_mixed dc__law_mixed pm__law_mixed an__law_mixed cd__law_mixed ct__law_mixed), sl__law_mixed⟩) (c__law_mixed : PySem.W.codeIn K cd__law_mixed "_law_mixed" = true) (k__law_mixed : PySem.W.keepIn K (.ref f__law_mixed) = true)
    {f__law_word : Addr} {oc__law_word kV__law_word dc__law_word pm__law_word cd__law_word ct__law_word : Value} {od__law_word an__law_word : Option Addr} {sl__law_word : Array (Option Value)} (a__law_word : PySem.W.nsIn K mainGlobals "_law_word" = some (some (.ref f__law_word))) (l__law_word : K.lookup f__law_word = some ⟨oc__law_word, od__law_word, .func (PySem.W.fnOf "_law_word" "_law_word" (defArgs s__law_word) (defBody s__law_word) (defScope s__law_word) .none kV__law_word dc__law_word pm__law_word an__law_word cd__law_word ct__law_word), sl__law_word⟩) (c__law_word : PySem.W.codeIn K cd__law_word "_law_word" = true) (k__law_word : PySem.W.keepIn K (.ref f__law_word) = true)
    {f_moving : Addr} {oc_moving kV_moving dc_moving pm_moving cd_moving ct_moving : Value} {od_moving an_moving : Option Addr} {sl_moving : Array (Option Value)} (a_moving : PySem.W.nsIn K mainGlobals "moving" = some (some (.ref f_moving))) (l_moving : K.lookup f_moving = some ⟨oc_moving, od_moving, .func (PySem.W.fnOf "moving" "moving" (defArgs s_moving) (defBody s_moving) (defScope s_moving) .none kV_moving dc_moving pm_moving an_moving cd_moving ct_moving), sl_moving⟩) (c_moving : PySem.W.codeIn K cd_moving "moving" = true) (k_moving : PySem.W.keepIn K (.ref f_moving) = true)
    {f_places_of : Addr} {oc_places_of kV_places_of dc_places_of pm_places_of cd_places_of ct_places_of : Value} {od_places_of an_places_of : Option Addr} {sl_places_of : Array (Option Value)} (a_places_of : PySem.W.nsIn K mainGlobals "places_of" = some (some (.ref f_places_of))) (l_places_of : K.lookup f_places_of = some ⟨oc_places_of, od_places_of, .func (PySem.W.fnOf "places_of" "places_of" (defArgs s_places_of) (defBody s_places_of) (defScope s_places_of) .none kV_places_of dc_places_of pm_places_of an_places_of cd_places_of ct_places_of), sl_places_of⟩) (c_places_of : PySem.W.codeIn K cd_places_of "places_of" = true) (k_places_of : PySem.W.keepIn K (.ref f_places_of) = true)
    {f_pressed : Addr} {oc_pressed kV_pressed dc_pressed pm_pressed cd_pressed ct_pressed : Value} {od_pressed an_pressed : Option Addr} {sl_pressed : Array (Option Value)} (a_pressed : PySem.W.nsIn K mainGlobals "pressed" = some (some (.ref f_pressed))) (l_pressed : K.lookup f_pressed = some ⟨oc_pressed, od_pressed, .func (PySem.W.fnOf "pressed" "pressed" (defArgs s_pressed) (defBody s_pressed) (defScope s_pressed) .none kV_pressed dc_pressed pm_pressed an_pressed cd_pressed ct_pressed), sl_pressed⟩) (c_pressed : PySem.W.codeIn K cd_pressed "pressed" = true) (k_pressed : PySem.W.keepIn K (.ref f_pressed) = true)
    {f_steps_of : Addr} {oc_steps_of kV_steps_of dc_steps_of pm_steps_of cd_steps_of ct_steps_of : Value} {od_steps_of an_steps_of : Option Addr} {sl_steps_of : Array (Option Value)} (a_steps_of : PySem.W.nsIn K mainGlobals "steps_of" = some (some (.ref f_steps_of))) (l_steps_of : K.lookup f_steps_of = some ⟨oc_steps_of, od_steps_of, .func (PySem.W.fnOf "steps_of" "steps_of" (defArgs s_steps_of) (defBody s_steps_of) (defScope s_steps_of) .none kV_steps_of dc_steps_of pm_steps_of an_steps_of cd_steps_of ct_steps_of), sl_steps_of⟩) (c_steps_of : PySem.W.codeIn K cd_steps_of "steps_of" = true) (k_steps_of : PySem.W.keepIn K (.ref f_steps_of) = true)
    {f_spread_rows : Addr} {oc_spread_rows kV_spread_rows dc_spread_rows pm_spread_rows cd_spread_rows ct_spread_rows : Value} {od_spread_rows an_spread_rows : Option Addr} {sl_spread_rows : Array (Option Value)} (a_spread_rows : PySem.W.nsIn K mainGlobals "spread_rows" = some (some (.ref f_spread_rows))) (l_spread_rows : K.lookup f_spread_rows = some ⟨oc_spread_rows, od_spread_rows, .func (PySem.W.fnOf "spread_rows" "spread_rows" (defArgs s_spread_rows) (defBody s_spread_rows) (defScope s_spread_rows) .none kV_spread_rows dc_spread_rows pm_spread_rows an_spread_rows cd_spread_rows ct_spread_rows), sl_spread_rows⟩) (c_spread_rows : PySem.W.codeIn K cd_spread_rows "spread_rows" = true) (k_spread_rows : PySem.W.keepIn K (.ref f_spread_rows) = true)
    {f_law : Addr} {oc_law kV_law dc_law pm_law cd_law ct_law : Value} {od_law an_law : Option Addr} {sl_law : Array (Option Value)} (a_law : PySem.W.nsIn K mainGlobals "law" = some (some (.ref f_law))) (l_law : K.lookup f_law = some ⟨oc_law, od_law, .func (PySem.W.fnOf "law" "law" (defArgs s_law) (defBody s_law) (defScope s_law) .none kV_law dc_law pm_law an_law cd_law ct_law), sl_law⟩) (c_law : PySem.W.codeIn K cd_law "law" = true) (k_law : PySem.W.keepIn K (.ref f_law) = true)
    (z_bool : PySem.W.nsIn K mainGlobals "bool" = some none)
    (z_enumerate : PySem.W.nsIn K mainGlobals "enumerate" = some none)
    (z_int : PySem.W.nsIn K mainGlobals "int" = some none)
    (z_isinstance : PySem.W.nsIn K mainGlobals "isinstance" = some none)
    (z_len : PySem.W.nsIn K mainGlobals "len" = some none)
    (z_list : PySem.W.nsIn K mainGlobals "list" = some none)
    (z_range : PySem.W.nsIn K mainGlobals "range" = some none)
    (z_reversed : PySem.W.nsIn K mainGlobals "reversed" = some none)
    (z_str : PySem.W.nsIn K mainGlobals "str" = some none)
    (z_sum : PySem.W.nsIn K mainGlobals "sum" = some none)
    (z_tuple : PySem.W.nsIn K mainGlobals "tuple" = some none)
    (z_zip : PySem.W.nsIn K mainGlobals "zip" = some none) :
    ∃ fd : FuncData, (∀ (s : Shared) (v : Value), BindsTo s fd ⟨[v], []⟩ [("_law_script", v)]) ∧ ∀ base : Heap, K.In base → base.Ns mainGlobals mg → FnOk l.prog w K mg base CX0 5 fa fd ["_law_script"] (spD K F_law) := by
  have e := hfa.symm.trans (PySem.W.mg_of X G a_law)
  cases e
  have D__law_at := Def1.mk' (st := s__law_at) (ps := ["_law_script", "_law_k"]) X G a__law_at l__law_at c__law_at k__law_at fun _ _ _ _ _ _ us hl => match us, hl with | [_, _], _ => rfl
  have D__law_value := Def1.mk' (st := s__law_value) (ps := ["_law_width_here", "_law_found", "_law_row"]) X G a__law_value l__law_value c__law_value k__law_value fun _ _ _ _ _ _ us hl => match us, hl with | [_, _, _], _ => rfl
  have D__law_answer := Def1.mk' (st := s__law_answer) (ps := ["_law_width_here", "_law_rows", "_law_word_here"]) X G a__law_answer l__law_answer c__law_answer k__law_answer fun _ _ _ _ _ _ us hl => match us, hl with | [_, _, _], _ => rfl
  have D__law_whole := Def1.mk' (st := s__law_whole) (ps := ["_law_found"]) X G a__law_whole l__law_whole c__law_whole k__law_whole fun _ _ _ _ _ _ us hl => match us, hl with | [_], _ => rfl
  have D__law_fine_row := Def1.mk' (st := s__law_fine_row) (ps := ["_law_row", "_law_width_here", "_law_ahead"]) X G a__law_fine_row l__law_fine_row c__law_fine_row k__law_fine_row fun _ _ _ _ _ _ us hl => match us, hl with | [_, _, _], _ => rfl
  have D__law_fine := Def1.mk' (st := s__law_fine) (ps := ["_law_rows", "_law_width_here", "_law_most"]) X G a__law_fine l__law_fine c__law_fine k__law_fine fun _ _ _ _ _ _ us hl => match us, hl with | [_, _, _], _ => rfl
  have D__law_places := Def1.mk' (st := s__law_places) (ps := ["_law_word_here"]) X G a__law_places l__law_places c__law_places k__law_places fun _ _ _ _ _ _ us hl => match us, hl with | [_], _ => rfl
  have D__law_spread := Def1.mk' (st := s__law_spread) (ps := ["_law_word_here", "_law_mask"]) X G a__law_spread l__law_spread c__law_spread k__law_spread fun _ _ _ _ _ _ us hl => match us, hl with | [_, _], _ => rfl
  have D__law_times := Def1.mk' (st := s__law_times) (ps := ["_law_width_here"]) X G a__law_times l__law_times c__law_times k__law_times fun _ _ _ _ _ _ us hl => match us, hl with | [_], _ => rfl
  have D__law_holds := Def1.mk' (st := s__law_holds) (ps := ["_law_rows", "_law_width_here", "_law_mask", "_law_words"]) X G a__law_holds l__law_holds c__law_holds k__law_holds fun _ _ _ _ _ _ us hl => match us, hl with | [_, _, _, _], _ => rfl
  have D__law_width := Def1.mk' (st := s__law_width) (ps := ["_law_cell"]) X G a__law_width l__law_width c__law_width k__law_width fun _ _ _ _ _ _ us hl => match us, hl with | [_], _ => rfl
  have D__law_mixed := Def1.mk' (st := s__law_mixed) (ps := ["_law_cell", "_law_k"]) X G a__law_mixed l__law_mixed c__law_mixed k__law_mixed fun _ _ _ _ _ _ us hl => match us, hl with | [_, _], _ => rfl
  have D__law_word := Def1.mk' (st := s__law_word) (ps := ["_law_cell", "_law_k", "_law_width_here"]) X G a__law_word l__law_word c__law_word k__law_word fun _ _ _ _ _ _ us hl => match us, hl with | [_, _, _], _ => rfl
  have D_moving := Def1.mk' (st := s_moving) (ps := ["name", "mask", "far", "given"]) X G a_moving l_moving c_moving k_moving fun _ _ _ _ _ _ us hl => match us, hl with | [_, _, _, _], _ => rfl
  have D_places_of := Def1.mk' (st := s_places_of) (ps := ["width", "mask"]) X G a_places_of l_places_of c_places_of k_places_of fun _ _ _ _ _ _ us hl => match us, hl with | [_, _], _ => rfl
  have D_pressed := Def1.mk' (st := s_pressed) (ps := ["width", "word", "mask"]) X G a_pressed l_pressed c_pressed k_pressed fun _ _ _ _ _ _ us hl => match us, hl with | [_, _, _], _ => rfl
  have D_steps_of := Def1.mk' (st := s_steps_of) (ps := ["width", "mask"]) X G a_steps_of l_steps_of c_steps_of k_steps_of fun _ _ _ _ _ _ us hl => match us, hl with | [_, _], _ => rfl
  have D_spread_rows := Def1.mk' (st := s_spread_rows) (ps := ["width", "mask"]) X G a_spread_rows l_spread_rows c_spread_rows k_spread_rows fun _ _ _ _ _ _ us hl => match us, hl with | [_, _], _ => rfl
  have D_law := Def1.mk' (st := s_law) (ps := ["_law_script"]) X G a_law l_law c_law k_law fun _ _ _ _ _ _ us hl => match us, hl with | [_], _ => rfl
  exact ⟨_, fun s v => .of_eq rfl, fun base _ _ => ok_all D__law_at D__law_value D__law_answer D__law_whole D__law_fine_row D__law_fine D__law_places D__law_spread D__law_times D__law_holds D__law_width D__law_mixed D__law_word D_moving D_places_of D_pressed D_steps_of D_spread_rows D_law (PySem.W.mg_none_of X G z_bool) (PySem.W.mg_none_of X G z_enumerate) (PySem.W.mg_none_of X G z_int) (PySem.W.mg_none_of X G z_isinstance) (PySem.W.mg_none_of X G z_len) (PySem.W.mg_none_of X G z_list) (PySem.W.mg_none_of X G z_range) (PySem.W.mg_none_of X G z_reversed) (PySem.W.mg_none_of X G z_str) (PySem.W.mg_none_of X G z_sum) (PySem.W.mg_none_of X G z_tuple) (PySem.W.mg_none_of X G z_zip)⟩
end LW
open PySem PySem.W PyProof.Rows
set_option maxRecDepth 100000 in
set_option maxHeartbeats 0 in
theorem PySem.Challenge.cw_bitferry_k43_spread_rows_holds : PySem.Challenge.rw_bitferry_k43_spread_rows.Holds := by
  w_on; o_law; k_head; (case hw => w_witness2)
  k_fill
  refine BFA.walkD (l := PySem.Challenge.rw_bitferry_k43_spread_rows) (FL := LW.F_law) (x := "_law_script") (k := 5) rfl rfl ⟨rfl, by decide, by decide⟩ (fun w h Y => PySem.W.kIn_of Y) ?F LW.law_true
  case F =>
    intro w mg fa h KX G hmg
    refine' LW.all_mk KX G hmg ?a__law_at ?l__law_at ?c__law_at ?k__law_at ?a__law_value ?l__law_value ?c__law_value ?k__law_value ?a__law_answer ?l__law_answer ?c__law_answer ?k__law_answer ?a__law_whole ?l__law_whole ?c__law_whole ?k__law_whole ?a__law_fine_row ?l__law_fine_row ?c__law_fine_row ?k__law_fine_row ?a__law_fine ?l__law_fine ?c__law_fine ?k__law_fine ?a__law_places ?l__law_places ?c__law_places ?k__law_places ?a__law_spread ?l__law_spread ?c__law_spread ?k__law_spread ?a__law_times ?l__law_times ?c__law_times ?k__law_times ?a__law_holds ?l__law_holds ?c__law_holds ?k__law_holds ?a__law_width ?l__law_width ?c__law_width ?k__law_width ?a__law_mixed ?l__law_mixed ?c__law_mixed ?k__law_mixed ?a__law_word ?l__law_word ?c__law_word ?k__law_word ?a_moving ?l_moving ?c_moving ?k_moving ?a_places_of ?l_places_of ?c_places_of ?k_places_of ?a_pressed ?l_pressed ?c_pressed ?k_pressed ?a_steps_of ?l_steps_of ?c_steps_of ?k_steps_of ?a_spread_rows ?l_spread_rows ?c_spread_rows ?k_spread_rows ?a_law ?l_law ?c_law ?k_law ?z_bool ?z_enumerate ?z_int ?z_isinstance ?z_len ?z_list ?z_range ?z_reversed ?z_str ?z_sum ?z_tuple ?z_zip
    (case a__law_at => k_is)
    (case l__law_at => k_is)
    (case c__law_at => k_is)
    (case k__law_at => k_is)
    (case a__law_value => k_is)
    (case l__law_value => k_is)
    (case c__law_value => k_is)
    (case k__law_value => k_is)
    (case a__law_answer => k_is)
    (case l__law_answer => k_is)
    (case c__law_answer => k_is)
    (case k__law_answer => k_is)
    (case a__law_whole => k_is)
    (case l__law_whole => k_is)
    (case c__law_whole => k_is)
    (case k__law_whole => k_is)
    (case a__law_fine_row => k_is)
    (case l__law_fine_row => k_is)
    (case c__law_fine_row => k_is)
    (case k__law_fine_row => k_is)
    (case a__law_fine => k_is)
    (case l__law_fine => k_is)
    (case c__law_fine => k_is)
    (case k__law_fine => k_is)
    (case a__law_places => k_is)
    (case l__law_places => k_is)
    (case c__law_places => k_is)
    (case k__law_places => k_is)
    (case a__law_spread => k_is)
    (case l__law_spread => k_is)
    (case c__law_spread => k_is)
    (case k__law_spread => k_is)
    (case a__law_times => k_is)
    (case l__law_times => k_is)
    (case c__law_times => k_is)
    (case k__law_times => k_is)
    (case a__law_holds => k_is)
    (case l__law_holds => k_is)
    (case c__law_holds => k_is)
    (case k__law_holds => k_is)
    (case a__law_width => k_is)
    (case l__law_width => k_is)
    (case c__law_width => k_is)
    (case k__law_width => k_is)
    (case a__law_mixed => k_is)
    (case l__law_mixed => k_is)
    (case c__law_mixed => k_is)
    (case k__law_mixed => k_is)
    (case a__law_word => k_is)
    (case l__law_word => k_is)
    (case c__law_word => k_is)
    (case k__law_word => k_is)
    (case a_moving => k_is)
    (case l_moving => k_is)
    (case c_moving => k_is)
    (case k_moving => k_is)
    (case a_places_of => k_is)
    (case l_places_of => k_is)
    (case c_places_of => k_is)
    (case k_places_of => k_is)
    (case a_pressed => k_is)
    (case l_pressed => k_is)
    (case c_pressed => k_is)
    (case k_pressed => k_is)
    (case a_steps_of => k_is)
    (case l_steps_of => k_is)
    (case c_steps_of => k_is)
    (case k_steps_of => k_is)
    (case a_spread_rows => k_is)
    (case l_spread_rows => k_is)
    (case c_spread_rows => k_is)
    (case k_spread_rows => k_is)
    (case a_law => k_is)
    (case l_law => k_is)
    (case c_law => k_is)
    (case k_law => k_is)
    (case z_bool => k_is)
    (case z_enumerate => k_is)
    (case z_int => k_is)
    (case z_isinstance => k_is)
    (case z_len => k_is)
    (case z_list => k_is)
    (case z_range => k_is)
    (case z_reversed => k_is)
    (case z_str => k_is)
    (case z_sum => k_is)
    (case z_tuple => k_is)
    (case z_zip => k_is)
