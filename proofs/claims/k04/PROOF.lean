import PyProof.Rows.All
import Wide.All
import OpenK.AllK
import Wide.FinOn
import Lean
import PyProof.EqAt
import PyProof.EqKinds
import PyProof.TupleCall
import PySem.Challenge.RW_bitferry_k04_lines_that_write_no_deed
set_option Elab.async false
set_option linter.all false
set_option maxRecDepth 100000
namespace L2
open PySem PySem.Spec PyProof.Rows
abbrev Key := Sum Int Str
def keyIs : Key → Value → Bool
  | .inl k, v => Value.isInt k v
  | .inr x, v => Value.isStrOf x v
def keyH (w : World) : Key → Int
  | .inl k => hashInt k
  | .inr x => hashStr w x
theorem keyIs_shape : ∀ {k : Key} {v : Value}, keyIs k v = true → (∃ i t, k = Sum.inl i ∧ v = Value.int i t) ∨ (∃ x t, k = Sum.inr x ∧ v = Value.str x t)
  | .inl i, v, h => by
    obtain ⟨t, e⟩ := Value.isInt_shape (k := i) (v := v) h
    exact .inl ⟨i, t, rfl, e⟩
  | .inr x, v, h => by
    obtain ⟨t, e⟩ := Value.isStrOf_shape (x := x) (v := v) h
    exact .inr ⟨x, t, rfl, e⟩
theorem keyIs_int (i : Int) (t : Tok) : keyIs (.inl i) (.int i t) = true := by simp [keyIs, Value.isInt]
theorem keyIs_str (x : Str) (t : Tok) : keyIs (.inr x) (.str x t) = true := by simp [keyIs, Value.isStrOf]
theorem key_ll (a b : Int) : decide ((Sum.inl a : Key) = Sum.inl b) = (a == b) := by
  by_cases e : a = b
  · subst e; simp
  · have h : ¬ (Sum.inl a : Key) = Sum.inl b := fun q => e (Sum.inl.inj q)
    rw [decide_eq_false h]
    exact (beq_eq_false_iff_ne.mpr e).symm
theorem key_rr (a b : Str) : decide ((Sum.inr a : Key) = Sum.inr b) = decide (a = b) := by
  by_cases e : a = b
  · subst e; simp
  · have h : ¬ (Sum.inr a : Key) = Sum.inr b := fun q => e (Sum.inr.inj q)
    rw [decide_eq_false h, decide_eq_false e]
theorem key_lr (a : Int) (b : Str) : decide ((Sum.inl a : Key) = Sum.inr b) = false := decide_eq_false (fun q => nomatch q)
theorem key_rl (a : Str) (b : Int) : decide ((Sum.inr a : Key) = Sum.inl b) = false := decide_eq_false (fun q => nomatch q)
def mixKind (prog : Program) (w : World) : PySem.KeyKind prog w Key where
  is := keyIs
  hash := keyH w
  inj := fun v a b ha hb => by
    rcases keyIs_shape ha with ⟨i, t, rfl, rfl⟩ | ⟨x, t, rfl, rfl⟩
    · rcases keyIs_shape hb with ⟨j, u, rfl, e⟩ | ⟨y, u, rfl, e⟩
      · injection e with e1 _; rw [e1]
      · exact nomatch e
    · rcases keyIs_shape hb with ⟨j, u, rfl, e⟩ | ⟨y, u, rfl, e⟩
      · exact nomatch e
      · injection e with e1 _; rw [e1]
  byValue := fun k v h => by
    rcases keyIs_shape h with ⟨i, t, rfl, rfl⟩ | ⟨x, t, rfl, rfl⟩ <;> rfl
  pyHash := fun hv h => by
    rcases keyIs_shape hv with ⟨i, t, rfl, rfl⟩ | ⟨x, t, rfl, rfl⟩
    · exact wpAny_pyHash_int h
    · exact wpAny_pyHash_str h
  eqBool := fun hu hv h => by
    rcases keyIs_shape hu with ⟨i, t, rfl, rfl⟩ | ⟨x, t, rfl, rfl⟩
    · rcases keyIs_shape hv with ⟨j, u, rfl, rfl⟩ | ⟨y, u, rfl, rfl⟩
      · rw [key_ll] at h; exact wpAny_eqBool_int h
      · rw [key_lr] at h; exact SeqAt.EqAt.int_str i t y u _ _ _ _ h
    · rcases keyIs_shape hv with ⟨j, u, rfl, rfl⟩ | ⟨y, u, rfl, rfl⟩
      · rw [key_rl] at h; exact SeqAt.EqAt.str_int x t j u _ _ _ _ h
      · rw [key_rr] at h; exact wpAny_eqBool_str h
  «strs» := fun k x t v h => by
    rcases keyIs_shape h with ⟨i, u, rfl, e⟩ | ⟨y, u, rfl, e⟩
    · exact nomatch e
    · injection e with e1 _
      subst e1
      cases v <;> rfl
theorem mixKind_int (prog : Program) (w : World) (i : Int) (t : Tok) : (mixKind prog w).is (.inl i) (.int i t) = true := keyIs_int i t
theorem mixKind_str (prog : Program) (w : World) (x : Str) (t : Tok) : (mixKind prog w).is (.inr x) (.str x t) = true := keyIs_str x t
end L2
namespace L2
open PySem PySem.Spec PyProof.Rows
inductive V where
  | non | bl (b : Bool) | int (i : Int) | str (x : Str) | byt (b : Array UInt8) | flt (b : UInt64) | ref (a : Addr) | ty (n : String)
  deriving DecidableEq
def RelV : V → Value → Prop
  | .non, u => u = Value.none
  | .bl b, u => u = Value.bool b
  | .int i, u => ∃ t, u = Value.int i t
  | .str x, u => ∃ t, u = Value.str x t
  | .byt b, u => ∃ t, u = Value.bytes b t
  | .flt b, u => ∃ t, u = Value.float b t
  | .ref a, u => u = Value.ref a
  | .ty n, u => u = Value.type n
abbrev Vals : List V → List Value → Prop := Paired RelV
theorem Vals.length {xs : List V} {us : List Value} (r : Vals xs us) : xs.length = us.length := Paired.length r
theorem Vals.get : ∀ {xs : List V} {us : List Value} {i : Nat} {x : V}, Vals xs us → xs[i]? = some x → ∃ u, us[i]? = some u ∧ RelV x u
  | _, _, _, _, .nil, e => by simp at e
  | _, _, 0, _, .cons r _, e => by simp at e; subst e; exact ⟨_, rfl, r⟩
  | _, _, i + 1, x, .cons _ t, e => by
    obtain ⟨u, h1, h2⟩ := Vals.get (i := i) (x := x) t (by simpa using e)
    exact ⟨u, by simpa using h1, h2⟩
theorem Vals.set {x : V} {u : Value} (r : RelV x u) : ∀ {xs : List V} {us : List Value} (i : Nat), Vals xs us → Vals (xs.set i x) (us.set i u)
  | _, _, _, .nil => .nil
  | _, _, 0, .cons _ t => .cons r t
  | _, _, i + 1, .cons q t => .cons q (Vals.set r i t)
theorem Vals.append : ∀ {xs ys : List V} {us ws : List Value}, Vals xs us → Vals ys ws → Vals (xs ++ ys) (us ++ ws)
  | _, _, _, _, .nil, s => s
  | _, _, _, _, .cons r t, s => .cons r (Vals.append t s)
theorem Vals.take : ∀ {xs : List V} {us : List Value} (n : Nat), Vals xs us → Vals (xs.take n) (us.take n)
  | _, _, 0, _ => .nil
  | _, _, _ + 1, .nil => .nil
  | _, _, n + 1, .cons r t => .cons r (Vals.take n t)
theorem Vals.drop : ∀ {xs : List V} {us : List Value} (n : Nat), Vals xs us → Vals (xs.drop n) (us.drop n)
  | _, _, 0, r => r
  | _, _, _ + 1, .nil => .nil
  | _, _, n + 1, .cons _ t => Vals.drop n t
def RelO : Option V → Option Value → Prop
  | some v, some u => RelV v u
  | none, none => True
  | _, _ => False
def KV {κ : Type} : List (κ × V) → List (κ × Value) → Prop := Paired fun (p : κ × V) (q : κ × Value) => p.1 = q.1 ∧ RelV p.2 q.2
def kV : Key → V
  | .inl i => .int i
  | .inr x => .str x
inductive HO where
  | lst (xs : List V)
  | tup (xs : List V)
  | dK (kvs : List (Key × V)) | dT (kvs : List (List Key × V))
  | set (S : Int → Bool) (n : Nat)
  | ins (C dx : Addr) (fs : List (Str × V))
  | own (x : Addr)
  | xd (fs : List (Str × V))
  | met (f x : Addr)
  | rng (lo hi : Int)
  | frz (o : Obj) (u : HO)
  | tbl (ps : Array Value)
  | ext (φ : Heap → Prop)
abbrev Hp := Addr → Option HO
def upd (H : Hp) (a : Addr) (o : HO) : Hp := fun b => if b = a then some o else H b
theorem upd_same {H : Hp} {a : Addr} {o : HO} : upd H a o a = some o := by unfold upd; rw [if_pos rfl]
theorem upd_ne {H : Hp} {a b : Addr} {o : HO} (h : b ≠ a) : upd H a o b = H b := by unfold upd; rw [if_neg h]
theorem ne_of_none {H : Hp} {a b : Addr} {o : HO} (h : H a = some o) (h' : H b = none) : a ≠ b := by
  intro e; subst e; rw [h] at h'; cases h'
section
variable (P : Program) (w : World)
def ObjOk (H : Hp) (h : Heap) (a : Addr) : HO → Prop
  | .lst xs => xs.length ≤ sizeLine ∧ ∃ (its : List Value) (n : Nat), Vals xs its ∧ h.get? a = some { cls := .type "list", data := .seq its.toArray n }
  | .tup xs => xs.length ≤ sizeLine ∧ ∃ its : List Value, Vals xs its ∧ IsTup h a its.toArray
  | .dK kvs => kvs.length ≤ sizeLine ∧ (a == sysModules) = false ∧ ∃ vs, KV kvs vs ∧ h.DictOf (mixKind P w) a vs
  | .dT kvs => kvs.length ≤ sizeLine ∧ (a == sysModules) = false ∧ ∃ xs : List (List Key × Addr × Value),
      Paired (fun (p : List Key × V) (q : List Key × Addr × Value) => p.1 = q.1 ∧ H q.2.1 = some (.tup (p.1.map kV)) ∧ RelV p.2 q.2.2) kvs xs ∧
      ∃ o es ep, h.get? a = some o ∧ o.ExactDict ∧ o.data = .dict es ep ∧ es.toList = xs.map (entryOfKey (tupleKind (mixKind P w))) ∧ (xs.map (·.1)).Nodup
  | .set S n => h.SetOf (intKind P w) a S n
  | .ins C dx fs => H dx = some (.own a) ∧ fs.length ≤ 1000 ∧ dx ≠ a ∧ h.get? a = some (PySem.W.instObj C dx) ∧
      ∃ mA, h.Ns1 dx mA ∧ (∀ f, RelO (fs.lookup f) (mA f)) ∧ PySem.Within mA (fs.map (·.1))
  | .own _ => ∃ o, h.get? a = some o
  | .xd fs => ∃ mA, h.Ns1 a mA ∧ ∀ f, RelO (fs.lookup f) (mA f)
  | .rng lo hi => ∃ t u v, h.get? a = some { cls := .type "range", data := .fields #[.int lo t, .int hi u, .int 1 v] }
  | .frz o u => h.get? a = some o ∧ ObjOk H h a u
  | .tbl ps => h.get? a = some { cls := .none, data := .fields ps }
  | .met f x => h.get? a = some (PySem.W.methodObj (.ref f) (.ref x))
  | .ext φ => φ h ∧ (∃ o, h.get? a = some o) ∧ ∀ h1 h2 : Heap, φ h1 → (∀ o, h1.get? a = some o → h2.get? a = some o) → φ h2
def HOk (H : Hp) (h : Heap) : Prop := ∀ a o, H a = some o → ObjOk P w H h a o
end
section
variable {P : Program} {w : World} {H H' : Hp} {h h' : Heap} {a : Addr} {o : HO}
theorem ObjOk.lt (x : ObjOk P w H h a o) : a < h.objs.size := by
  cases o with
  | lst xs => obtain ⟨_, _, _, _, e⟩ := x; exact Heap.lt_size e
  | tup xs => obtain ⟨_, _, _, p⟩ := x; exact p.lt
  | dK kvs => obtain ⟨_, _, _, _, o, _, _, e, _⟩ := x; exact Heap.lt_size e
  | dT kvs => obtain ⟨_, _, _, _, o, _, _, e, _⟩ := x; exact Heap.lt_size e
  | set S n => obtain ⟨o, _, _, _, e, _⟩ := x; exact Heap.lt_size e
  | ins C dx fs => obtain ⟨_, _, _, e, _⟩ := x; exact Heap.lt_size e
  | own y => obtain ⟨_, e⟩ := x; exact Heap.lt_size e
  | xd fs => obtain ⟨_, ⟨_, _, _, e, _⟩, _⟩ := x; exact Heap.lt_size e
  | rng lo hi => obtain ⟨_, _, _, e⟩ := x; exact Heap.lt_size e
  | frz ob u => obtain ⟨e, _⟩ := x; exact Heap.lt_size e
  | tbl ps => exact Heap.lt_size (show h.get? a = some _ from x)
  | met f y => exact Heap.lt_size (show h.get? a = some _ from x)
  | ext φ => obtain ⟨_, ⟨_, e⟩, _⟩ := x; exact Heap.lt_size e
theorem Paired.mapP {α β : Type} {F G : α → β → Prop} : ∀ {l₁ : List α} {l₂ : List β}, Paired F l₁ l₂ → (∀ a b, F a b → G a b) → Paired G l₁ l₂
  | _, _, .nil, _ => .nil
  | _, _, .cons r t, f => .cons (f _ _ r) (Paired.mapP t f)
theorem ObjOk.stay (x : ObjOk P w H h a o) (k : ∀ b u, (b = a ∨ H b = some (.own a)) → h.get? b = some u → h'.get? b = some u)
    (ho : ∀ b, H b = some (.own a) → H' b = some (.own a)) (ht : ∀ b xs, H b = some (.tup xs) → H' b = some (.tup xs)) : ObjOk P w H' h' a o := by
  induction o with
  | lst xs => obtain ⟨z, its, n, r, e⟩ := x; exact ⟨z, its, n, r, k _ _ (.inl rfl) e⟩
  | tup xs => obtain ⟨z, its, r, ob, e, c⟩ := x; exact ⟨z, its, r, ob, k _ _ (.inl rfl) e, c⟩
  | dK kvs => obtain ⟨z, y, vs, r, ob, es, ep, e, c⟩ := x; exact ⟨z, y, vs, r, ob, es, ep, k _ _ (.inl rfl) e, c⟩
  | dT kvs =>
    obtain ⟨z, y, xs, r, ob, es, ep, e, c⟩ := x
    exact ⟨z, y, xs, Paired.mapP r fun p q z => ⟨z.1, ht _ _ z.2.1, z.2.2⟩, ob, es, ep, k _ _ (.inl rfl) e, c⟩
  | set S n => obtain ⟨ob, es, ep, t, e, c⟩ := x; exact ⟨ob, es, ep, t, k _ _ (.inl rfl) e, c⟩
  | ins C dx fs =>
    obtain ⟨d, z, ne, e, mA, ⟨od, es, ep, e2, c⟩, r⟩ := x
    exact ⟨ho _ d, z, ne, k _ _ (.inl rfl) e, mA, ⟨od, es, ep, k _ _ (.inr d) e2, c⟩, r⟩
  | own y => obtain ⟨ob, e⟩ := x; exact ⟨ob, k _ _ (.inl rfl) e⟩
  | xd fs => obtain ⟨mA, ⟨od, es, ep, e, c⟩, r⟩ := x; exact ⟨mA, ⟨od, es, ep, k _ _ (.inl rfl) e, c⟩, r⟩
  | rng lo hi => obtain ⟨t, u, v, e⟩ := x; exact ⟨t, u, v, k _ _ (.inl rfl) e⟩
  | frz ob u ih => obtain ⟨e, q⟩ := x; exact ⟨k _ _ (.inl rfl) e, ih q⟩
  | tbl ps =>
    have e : h.get? a = some { cls := .none, data := .fields ps } := x
    show h'.get? a = some { cls := .none, data := .fields ps }
    exact k a _ (.inl rfl) e
  | met f y =>
    have e : h.get? a = some (PySem.W.methodObj (.ref f) (.ref y)) := x
    show h'.get? a = some (PySem.W.methodObj (.ref f) (.ref y))
    exact k a _ (.inl rfl) e
  | ext φ => obtain ⟨p, ⟨o, e⟩, st⟩ := x; exact ⟨st _ _ p fun o q => k _ _ (.inl rfl) q, ⟨o, k _ _ (.inl rfl) e⟩, st⟩
theorem HOk.lt (x : HOk P w H h) (e : H a = some o) : a < h.objs.size := (x a o e).lt
theorem HOk.fresh (x : HOk P w H h) (e : h.objs.size ≤ a) : H a = none := by
  cases q : H a with
  | none => rfl
  | some u => exact absurd (Nat.lt_of_lt_of_le (x.lt q) e) (Nat.lt_irrefl _)
theorem HOk.kept (x : HOk P w H h) (k : ∀ b u, h.get? b = some u → h'.get? b = some u) : HOk P w H h' := fun a o e =>
  (x a o e).stay (fun b u _ q => k b u q) (fun _ q => q) fun _ _ q => q
theorem HOk.laid (x : HOk P w H h) (k : ∀ b u, h.get? b = some u → h'.get? b = some u) (hp : h.objs.size ≤ a) (new : ObjOk P w (upd H a o) h' a o) : HOk P w (upd H a o) h' := fun b u e => by
  have hn := x.fresh hp
  by_cases hb : b = a
  · subst hb; rw [upd_same] at e; cases e; exact new
  · rw [upd_ne hb] at e
    exact (x b u e).stay (fun c v _ q => k c v q) (fun c q => by rw [upd_ne (ne_of_none q hn)]; exact q) fun c xs q => by rw [upd_ne (ne_of_none q hn)]; exact q
end
def Rd (H : Hp) (a : Addr) (u : HO) : Prop := H a = some u ∨ ∃ o, H a = some (.frz o u)
theorem Rd.of {H : Hp} {a : Addr} {u : HO} (h : H a = some u) : Rd H a u := .inl h
theorem Rd.ok {P : Program} {w : World} {H : Hp} {h : Heap} {a : Addr} {u : HO} (r : Rd H a u) (x : HOk P w H h) : ObjOk P w H h a u := by
  rcases r with r | ⟨o, r⟩
  · exact x a u r
  · obtain ⟨_, q⟩ := x a _ r
    exact q
def Mut : Option HO → Prop
  | some (.lst _) => True
  | some (.dK _) => True
  | some (.dT _) => True
  | some (.set _ _) => True
  | some (.ins _ _ _) => True
  | some (.ext _) => True
  | _ => False
section
variable {P : Program} {w : World} {H : Hp} {h h' : Heap} {x e : Addr} {o' : HO}
theorem HOk.write (ok : HOk P w H h) (mu : Mut (H x)) (he : e = x ∨ H e = some (.own x)) (k : ∀ b u, b ≠ e → h.get? b = some u → h'.get? b = some u) (heo : ∃ u, h'.get? e = some u)
    (new : ObjOk P w (upd H x o') h' x o') : HOk P w (upd H x o') h' := fun b u q => by
  have nown : ∀ c y, H c = some (.own y) → c ≠ x := fun c y r z => by subst z; rw [r] at mu; exact mu
  have ntup : ∀ c xs, H c = some (.tup xs) → c ≠ x := fun c xs r z => by subst z; rw [r] at mu; exact mu
  by_cases hb : b = x
  · subst hb; rw [upd_same] at q; cases q; exact new
  · rw [upd_ne hb] at q
    by_cases hbe : b = e
    · have q' : H b = some (.own x) := by
        rcases he with z | z
        · exact absurd (hbe.trans z) hb
        · rw [hbe]; exact z
      rw [q] at q'; cases q'
      obtain ⟨v, hv⟩ := heo
      exact ⟨v, by rw [hbe]; exact hv⟩
    · refine (ok b u q).stay (fun c v hc r => k c v ?_ r) (fun c r => by rw [upd_ne (nown c b r)]; exact r) fun c xs r => by rw [upd_ne (ntup c xs r)]; exact r
      rcases hc with rfl | hc
      · exact hbe
      · rintro rfl
        rcases he with z | z
        · exact nown c b hc z
        · rw [hc] at z; cases z; exact hb rfl
end
structure Un (fs ex : List Addr) (H H' : Hp) (h h' : Heap) : Prop where
  keep : ∀ b o, h.get? b = some o → H b = none → b ∉ fs → b ∉ ex → h'.get? b = some o
  slot : ∀ b o, h.get? b = some o → H b = none → b ∈ fs → b ∉ ex → ∃ sl, h'.get? b = some { o with slots := sl }
  free : ∀ b o, h.get? b = some o → H b = none → b ∉ ex → H' b = none
  there : ∀ b o, h.get? b = some o → b ∉ ex → ∃ o', h'.get? b = some o'
  tups : ∀ b xs, H b = some (.tup xs) → H' b = some (.tup xs)
  frzs : ∀ b o u, H b = some (.frz o u) → H' b = some (.frz o u)
  tbls : ∀ b ps, H b = some (.tbl ps) → ∃ more, H' b = some (.tbl (ps ++ more))
section
variable {fs fs' ex ex' : List Addr} {H H1 H2 : Hp} {h h1 h2 h' : Heap} {a x e : Addr} {o : HO}
theorem Un.any (u : Un fs ex H H1 h h1) {b : Addr} {ob : Obj} (q : h.get? b = some ob) (n : H b = none) (hx : b ∉ ex) : ∃ sl, h1.get? b = some { ob with slots := sl } := by
  by_cases hb : b ∈ fs
  · exact u.slot b ob q n hb hx
  · exact ⟨ob.slots, u.keep b ob q n hb hx⟩
theorem Un.trans (a : Un fs ex H H1 h h1) (b : Un fs ex H1 H2 h1 h2) : Un fs ex H H2 h h2 where
  keep := fun c ob q n hc hx => b.keep c ob (a.keep c ob q n hc hx) (a.free c ob q n hx) hc hx
  slot := fun c ob q n hc hx => by
    obtain ⟨sl, e1⟩ := a.slot c ob q n hc hx
    obtain ⟨sl', e2⟩ := b.slot c _ e1 (a.free c ob q n hx) hc hx
    exact ⟨sl', e2⟩
  free := fun c ob q n hx => by
    obtain ⟨o', e1⟩ := a.there c ob q hx
    exact b.free c o' e1 (a.free c ob q n hx) hx
  there := fun c ob q hx => by
    obtain ⟨o', e1⟩ := a.there c ob q hx
    exact b.there c o' e1 hx
  tups := fun c xs q => b.tups c xs (a.tups c xs q)
  frzs := fun c ob xs q => b.frzs c ob xs (a.frzs c ob xs q)
  tbls := fun c ps q => by
    obtain ⟨m1, e1⟩ := a.tbls c ps q
    obtain ⟨m2, e2⟩ := b.tbls c _ e1
    exact ⟨m1 ++ m2, by rw [e2, Array.append_assoc]⟩
theorem Un.kept (k : ∀ b u, h.get? b = some u → h'.get? b = some u) : Un fs ex H H h h' :=
  ⟨fun b ob q _ _ _ => k b ob q, fun b ob q _ _ _ => ⟨ob.slots, k b ob q⟩, fun _ _ _ n _ => n, fun b ob q _ => ⟨ob, k b ob q⟩, fun _ _ q => q, fun _ _ _ q => q, fun _ ps q => ⟨#[], by rw [q]; simp⟩⟩
theorem Un.refl : Un fs ex H H h h := Un.kept fun _ _ q => q
theorem Un.laid (k : ∀ b u, h.get? b = some u → h'.get? b = some u) (hp : h.objs.size ≤ a) (hn : H a = none) : Un fs ex H (upd H a o) h h' where
  keep := fun b u q _ _ _ => k b u q
  slot := fun b u q _ _ _ => ⟨u.slots, k b u q⟩
  free := fun b u q n _ => by rw [upd_ne (Nat.ne_of_lt (Nat.lt_of_lt_of_le (Heap.lt_size q) hp))]; exact n
  there := fun b u q _ => ⟨u, k b u q⟩
  tups := fun b xs q => by rw [upd_ne (ne_of_none q hn)]; exact q
  frzs := fun b u xs q => by rw [upd_ne (ne_of_none q hn)]; exact q
  tbls := fun b ps q => ⟨#[], by rw [upd_ne (ne_of_none q hn), q]; simp⟩
theorem Un.write (mu : Mut (H x)) (he : e = x ∨ H e = some (.own x)) (k : ∀ b u, b ≠ e → h.get? b = some u → h'.get? b = some u) (heo : ∃ u, h'.get? e = some u) : Un fs ex H (upd H x o) h h' := by
  have hx : ∀ b, H b = none → b ≠ x := fun b n z => by subst z; rw [n] at mu; exact mu
  have hb : ∀ b, H b = none → b ≠ e := fun b n z => by
    subst z
    rcases he with r | r
    · exact hx b n r
    · rw [n] at r; cases r
  have hm : ∀ b u, H b = some u → ¬ Mut (some u) → b ≠ x := fun b u q nm z => by subst z; rw [q] at mu; exact nm mu
  refine ⟨fun b u q n _ _ => k b u (hb b n) q, fun b u q n _ _ => ⟨u.slots, k b u (hb b n) q⟩, fun b u q n _ => by rw [upd_ne (hx b n)]; exact n, fun b u q _ => ?_,
    fun b xs q => by rw [upd_ne (hm b _ q fun z => z)]; exact q, fun b u xs q => by rw [upd_ne (hm b _ q fun z => z)]; exact q, fun b ps q => ⟨#[], by rw [upd_ne (hm b _ q fun z => z), q]; simp⟩⟩
  by_cases hbe : b = e
  · subst hbe; exact heo
  · exact ⟨u, k b u hbe q⟩
theorem Un.mono (u : Un fs ex H H1 h h1) (hs : ∀ b ∈ fs, b ∈ fs') (hx : ∀ b ∈ ex, b ∈ ex') : Un fs' ex' H H1 h h1 :=
  ⟨fun b ob q n hb he => u.keep b ob q n (fun z => hb (hs b z)) fun z => he (hx b z), fun _ _ q n _ he => u.any q n fun z => he (hx _ z), fun b ob q n he => u.free b ob q n fun z => he (hx b z), fun b ob q he => u.there b ob q fun z => he (hx b z), u.tups, u.frzs, u.tbls⟩
end
def trk (h : Heap) (H : Hp) : List Addr := (List.range h.objs.size).filter fun a => (H a).isSome
def hidT (h : Heap) (H : Hp) : Heap := PySem.W.hideAll h (trk h H)
theorem hidT_size (h : Heap) (H : Hp) : (hidT h H).objs.size = h.objs.size := PySem.W.hideAll_size _ _
theorem hidT_get {h : Heap} {H : Hp} {b : Addr} {o : Obj} (e : h.get? b = some o) (n : H b = none) : (hidT h H).get? b = some o :=
  PySem.W.hideAll_get _ e fun hm => by
    have q : (H b).isSome = true := (List.mem_filter.mp hm).2
    rw [n] at q; simp at q
theorem of_hidT {h : Heap} {H : Hp} {b : Addr} {o : Obj} (e : (hidT h H).get? b = some o) : h.get? b = some o ∧ H b = none := by
  have e' : h.get? b = some o := PySem.W.of_hideAll (trk h H) e
  refine ⟨e', ?_⟩
  cases q : H b with
  | none => rfl
  | some x =>
    have hm : b ∈ trk h H := List.mem_filter.mpr ⟨List.mem_range.mpr (Heap.lt_size e'), by simp [q]⟩
    have z : (hidT h H).get? b = none := PySem.W.hideAll_none (trk h H) hm
    rw [z] at e; cases e
def allNews (g h : Heap) (L : Addr) : List (Addr × Obj) := (List.range h.objs.size).filterMap fun a => if a = L ∨ (g.get? a).isSome = true then none else (h.get? a).map fun o => (a, o)
def rest (g h : Heap) (L d : Addr) : List (Addr × Obj) := (allNews g h L).filter fun p => decide (p.1 ≠ d)
end L2
namespace L2
open PySem PySem.Spec PyProof.Rows
structure Mod (K : PySem.W.Frag) (mg : Str → Option Value) (base : Heap) : Prop where
  kin : K.In base
  glob : base.Ns mainGlobals mg
  blt : ∃ mb, base.Ns builtinsNs mb ∧ ∀ x : Str, x ≠ "__name__" → mb x = bootBuiltins x
  nolimit : base.NoLimit
structure Cx where
  prog : Program
  w : World
  K : PySem.W.Frag
  mg : Str → Option Value
  base : Heap
  A : Around
  N : List Str
  s₀ : Shared
  H₀ : Hp
  env : Env
  outer : List Env
  stack : List Env
  ex : List Addr
  fn : Str → Bool
  calm : Bool
  pn : List (Addr × Obj)
  xe : Value → Shared → Prop
def frs (l : List Env) : List Addr := l.filterMap (·.frame)
abbrev Cx.fs (X : Cx) : List Addr := frs X.outer
def Vis (sc : Scope) (x : Str) : Prop := sc.names.lookup x = some .local ∨ sc.names.lookup x = some .cell ∨ sc.names.lookup x = some .free
def Loc (sc : Scope) (x : Str) : Prop := sc.names.lookup x = some .local ∨ sc.names.lookup x = some .cell
def Look (env : Env) (h : Heap) (m : Str → Option Value) (x : Str) (u : Value) : Prop :=
  (env.kindOf x = some .local ∧ m x = some u) ∨ ((env.kindOf x = some .cell ∨ env.kindOf x = some .free) ∧ ∃ c, env.cells.lookup x = some c ∧ h.IsCell c (some u))
structure Cx.Ok (X : Cx) : Prop where
  mod : Mod X.K X.mg X.base
  kind : X.env.scope.kind = .function
  glob : X.env.globals = mainGlobals
  blt : X.env.builtins = builtinsNs
  above : X.s₀.heap.objs.size ≤ X.env.locals
  inj : ∀ x y c, X.env.cells.lookup x = some c → X.env.cells.lookup y = some c → x = y
  has : ∀ x, (X.env.kindOf x = some .cell ∨ X.env.kindOf x = some .free) → ∃ c, X.env.cells.lookup x = some c
  cab : ∀ x c, X.fn x = true → X.env.cells.lookup x = some c → X.s₀.heap.objs.size ≤ c
  hd : X.calm = true → X.A.handled = none
  frames : X.A.frames = some X.stack
  stk : X.stack = X.outer ∨ (X.stack = X.env :: X.outer ∧ X.env.frame = some X.env.locals)
  exf : ∀ b ∈ X.ex, b ≠ X.env.locals ∧ ∀ x c, X.env.cells.lookup x = some c → c ≠ b
  bs : ∀ b o, X.base.get? b = some o → X.s₀.heap.get? b = some o ∧ X.H₀ b = none
  bsz : X.base.objs.size ≤ X.s₀.heap.objs.size
  noex : ∀ b o, X.base.get? b = some o → b ∉ X.ex
  exfs : ∀ b ∈ X.ex, b ∉ X.fs
  funs : X.s₀.heap.FunFrames X.base X.outer
  frf : ∀ b ∈ X.fs, X.H₀ b = none
structure Inv (X : Cx) (pins : List (Addr × Obj)) (σ : List (Option V)) (H : Hp) (s : Shared) : Prop where
  ok : X.Ok
  os : s.os = X.s₀.os
  bare : AllBare s.gens
  base : Un X.fs X.ex X.H₀ H X.s₀.heap s.heap
  loc : ∃ m, s.heap.Ns X.env.locals m ∧ ∀ (i : Nat) (x : Str) (v : V), X.N[i]? = some x → σ[i]? = some (some v) → Vis X.env.scope x → ∃ u, RelV v u ∧ Look X.env s.heap m x u
  cell : ∀ x c, X.env.cells.lookup x = some c → ∃ v, s.heap.IsCell c v
  free : H X.env.locals = none
  freeC : ∀ x c, X.env.cells.lookup x = some c → H c = none
  pin : ∀ p ∈ X.pn ++ pins, s.heap.get? p.1 = some p.2 ∧ H p.1 = none ∧ p.1 ≠ X.env.locals ∧ p.1 ∉ X.fs ∧ ∀ v, p.2.data ≠ .cell v
  hok : HOk X.prog X.w H s.heap
  len : σ.length = X.N.length
section
variable {X : Cx} {pins : List (Addr × Obj)} {σ : List (Option V)} {H H' : Hp} {s : Shared} {h' : Heap}
theorem Cx.Ok.nofr (ok : X.Ok) {b : Addr} {o : Obj} (e : X.base.get? b = some o) : b ∉ X.fs := fun hb => by
  have := (ok.funs.mem hb).1
  rw [e] at this; cases this
theorem Inv.bs (I : Inv X pins σ H s) : ∀ b o, X.base.get? b = some o → s.heap.get? b = some o ∧ H b = none := fun b o e =>
  ⟨I.base.keep b o (I.ok.bs b o e).1 (I.ok.bs b o e).2 (I.ok.nofr e) (I.ok.noex b o e), I.base.free b o (I.ok.bs b o e).1 (I.ok.bs b o e).2 (I.ok.noex b o e)⟩
theorem Inv.bk (I : Inv X pins σ H s) : ∀ b o, X.base.get? b = some o → s.heap.get? b = some o := fun b o e => (I.bs b o e).1
theorem Inv.mod (I : Inv X pins σ H s) : Mod X.K X.mg X.base := I.ok.mod
theorem Inv.kIn (I : Inv X pins σ H s) : X.K.In s.heap := I.ok.mod.kin.keeps I.bk
theorem Inv.nolimit (I : Inv X pins σ H s) : s.heap.NoLimit := I.ok.mod.nolimit.keeps I.bk
theorem Inv.fr (I : Inv X pins σ H s) : ∃ m, Fr X.base X.env.locals s.heap m :=
  let ⟨m, hn, _⟩ := I.loc
  ⟨m, hn, I.bk, Nat.le_trans I.ok.bsz I.ok.above⟩
theorem Inv.lt (I : Inv X pins σ H s) : X.env.locals < s.heap.objs.size := let ⟨_, hn, _⟩ := I.loc; hn.lt
theorem Inv.sz (I : Inv X pins σ H s) : X.s₀.heap.objs.size ≤ s.heap.objs.size := Nat.le_trans I.ok.above (Nat.le_of_lt I.lt)
theorem Inv.nofs (I : Inv X pins σ H s) {a : Addr} (h : s.heap.objs.size ≤ a) : a ∉ X.fs := fun hb => by
  obtain ⟨_, o, ho, _⟩ := I.ok.funs.mem hb
  exact absurd (Nat.lt_of_lt_of_le (Heap.lt_size ho) (Nat.le_trans I.sz h)) (Nat.lt_irrefl _)
theorem Inv.cne (I : Inv X pins σ H s) : ∀ x c, X.env.cells.lookup x = some c → c ≠ X.env.locals := fun x c e z => by
  obtain ⟨v, o, ho, hd⟩ := I.cell x c e
  obtain ⟨m, ⟨o', es, ep, ho', hd', _⟩, _⟩ := I.loc
  rw [z, ho'] at ho; cases ho; rw [hd'] at hd; cases hd
theorem Inv.funs (I : Inv X pins σ H s) : s.heap.FunFrames X.base X.outer := by
  have all : ∀ (l : List Env), (∀ b ∈ frs l, b ∈ X.fs) → X.s₀.heap.FunFrames X.base l → s.heap.FunFrames X.base l := by
    intro l
    induction l with
    | nil => intro _ _; trivial
    | cons env r ih =>
      intro hs hl
      obtain ⟨hk, ⟨L, o, hf, hn, ho, hd⟩, hr⟩ := hl
      have hL : L ∈ X.fs := hs L (by unfold frs; rw [List.filterMap_cons, hf]; exact List.mem_cons_self)
      obtain ⟨sl, e⟩ := I.base.slot L o ho (I.ok.frf L hL) hL fun z => I.ok.exfs L z hL
      exact ⟨hk, ⟨L, _, hf, hn, e, hd⟩, ih (fun b hb => hs b (by unfold frs; rw [List.filterMap_cons, hf]; exact List.mem_cons_of_mem _ hb)) hr⟩
  exact all X.outer (fun _ hb => hb) I.ok.funs
theorem Inv.stack (I : Inv X pins σ H s) : s.heap.FunFrames X.base X.stack := by
  rcases I.ok.stk with e | ⟨e, hf⟩
  · rw [e]; exact I.funs
  · rw [e]
    obtain ⟨m, hn, _⟩ := I.loc
    refine .cons (by rw [I.ok.kind]; decide) hf hn ?_ I.funs
    exact Heap.get?_none_of_le (Nat.le_trans I.ok.bsz I.ok.above)
theorem Inv.stkSub (I : Inv X pins σ H s) : ∀ b ∈ frs X.stack, b ∈ X.env.locals :: X.fs := fun b hb => by
  rcases I.ok.stk with e | ⟨e, hf⟩
  · rw [e] at hb; exact List.mem_cons_of_mem _ hb
  · rw [e] at hb
    unfold frs at hb
    rw [List.filterMap_cons, hf] at hb
    exact hb
theorem Inv.stkFree (I : Inv X pins σ H s) : ∀ b ∈ frs X.stack, H b = none := fun b hb => by
  rcases List.mem_cons.mp (I.stkSub b hb) with e | hb
  · rw [e]; exact I.free
  · obtain ⟨_, o, ho, _⟩ := I.ok.funs.mem hb
    exact I.base.free b o ho (I.ok.frf b hb) fun z => I.ok.exfs b z hb
theorem Inv.step {g' : Array GenState} {t' : Nat} {d' : Drawn} {ch : List Addr} (I : Inv X pins σ H s)
    (hch : ∀ b ∈ ch, (b ∈ X.ex ∨ X.s₀.heap.objs.size ≤ b) ∧ b ≠ X.env.locals ∧ (∀ x c, X.env.cells.lookup x = some c → c ≠ b) ∧ ∀ p ∈ X.pn ++ pins, p.1 ≠ b)
    (keep : ∀ b o, b ≠ X.env.locals → b ∉ X.fs → b ∉ ch → s.heap.get? b = some o → H b = none → h'.get? b = some o)
    (slot : ∀ b o, b ≠ X.env.locals → b ∈ X.fs → b ∉ ch → s.heap.get? b = some o → H b = none → ∃ sl, h'.get? b = some { o with slots := sl }) (free : ∀ b o, b ∉ ch → s.heap.get? b = some o → H b = none → H' b = none)
    (there : ∀ b o, b ∉ ch → s.heap.get? b = some o → ∃ o', h'.get? b = some o')
    (tups : ∀ b xs, H b = some (.tup xs) → H' b = some (.tup xs)) (frzs : ∀ b o u, H b = some (.frz o u) → H' b = some (.frz o u)) (tbls : ∀ b ps, H b = some (.tbl ps) → ∃ more, H' b = some (.tbl (ps ++ more)))
    (ns : ∀ m, s.heap.Ns X.env.locals m → h'.Ns X.env.locals m) (hok : HOk X.prog X.w H' h') (hg : AllBare g') :
    Inv X pins σ H' { s with heap := h', gens := g', drawn := d', toks := t' } := by
  have neL : ∀ b o, X.s₀.heap.get? b = some o → b ≠ X.env.locals := fun b o e => Nat.ne_of_lt (Nat.lt_of_lt_of_le (Heap.lt_size e) I.ok.above)
  have neC : ∀ b o, X.s₀.heap.get? b = some o → b ∉ X.ex → b ∉ ch := fun b o e hx hb => by
    rcases (hch b hb).1 with z | z
    · exact hx z
    · exact absurd (Nat.lt_of_lt_of_le (Heap.lt_size e) z) (Nat.lt_irrefl _)
  have cellK : ∀ x c, X.env.cells.lookup x = some c → ∀ v, s.heap.IsCell c v → h'.IsCell c v := fun x c e v ⟨o, ho, hd⟩ => by
    have nch : c ∉ ch := fun z => (hch c z).2.2.1 x c e rfl
    by_cases hc : c ∈ X.fs
    · obtain ⟨sl, q⟩ := slot c o (I.cne x c e) hc nch ho (I.freeC x c e)
      exact ⟨_, q, hd⟩
    · exact ⟨o, keep c o (I.cne x c e) hc nch ho (I.freeC x c e), hd⟩
  refine ⟨I.ok, I.os, hg, ⟨fun b o e n hb hx => ?_, fun b o e n hb hx => ?_, fun b o e n hx => ?_, fun b o e hx => ?_, fun b xs e => tups b xs (I.base.tups b xs e), fun b o xs e => frzs b o xs (I.base.frzs b o xs e), fun b ps e => ?_⟩, ?_, fun x c e => ?_, ?_, fun x c e => ?_, fun p hp => ?_, hok, I.len⟩
  · exact keep b o (neL b o e) hb (neC b o e hx) (I.base.keep b o e n hb hx) (I.base.free b o e n hx)
  · obtain ⟨sl, e1⟩ := I.base.slot b o e n hb hx
    obtain ⟨sl', e2⟩ := slot b _ (neL b o e) hb (neC b o e hx) e1 (I.base.free b o e n hx)
    exact ⟨sl', e2⟩
  · obtain ⟨o', e1⟩ := I.base.there b o e hx
    exact free b o' (neC b o e hx) e1 (I.base.free b o e n hx)
  · obtain ⟨o', e1⟩ := I.base.there b o e hx
    exact there b o' (neC b o e hx) e1
  · obtain ⟨m1, e1⟩ := I.base.tbls b ps e
    obtain ⟨m2, e2⟩ := tbls b _ e1
    exact ⟨m1 ++ m2, by rw [e2, Array.append_assoc]⟩
  · obtain ⟨m, hn, hl⟩ := I.loc
    refine ⟨m, ns m hn, fun i x v e1 e2 e3 => ?_⟩
    obtain ⟨u, r, l⟩ := hl i x v e1 e2 e3
    refine ⟨u, r, ?_⟩
    rcases l with l | ⟨k, c, e, z⟩
    · exact .inl l
    · exact .inr ⟨k, c, e, cellK x c e _ z⟩
  · obtain ⟨v, z⟩ := I.cell x c e
    exact ⟨v, cellK x c e v z⟩
  · obtain ⟨m, ⟨o, _, _, ho, _⟩, _⟩ := I.loc
    exact free _ o (fun z => (hch _ z).2.1 rfl) ho I.free
  · obtain ⟨v, o, ho, hd⟩ := I.cell x c e
    exact free c o (fun z => (hch c z).2.2.1 x c e rfl) ho (I.freeC x c e)
  · obtain ⟨e, n, ne, nf, d⟩ := I.pin p hp
    have nch : p.1 ∉ ch := fun z => (hch p.1 z).2.2.2 p hp rfl
    exact ⟨keep p.1 p.2 ne nf nch e n, free p.1 p.2 nch e n, ne, nf, d⟩
theorem Inv.un {t' : Nat} (I : Inv X pins σ H s) (u : Un X.fs [] H H' s.heap h') (hok : HOk X.prog X.w H' h') : Inv X pins σ H' { s with heap := h', toks := t' } := by
  obtain ⟨m, ⟨o, es, ep, ho, r⟩, _⟩ := id I.loc
  obtain ⟨sl, hL⟩ := u.any ho I.free (by simp)
  exact I.step (g' := s.gens) (d' := s.drawn) (ch := []) (fun _ z => nomatch z) (fun b o _ hb _ e n => u.keep b o e n hb (by simp)) (fun b o _ hb _ e n => u.slot b o e n hb (by simp)) (fun b o _ e n => u.free b o e n (by simp)) (fun b o _ e => u.there b o e (by simp)) u.tups u.frzs u.tbls (fun m' hm => by
    obtain ⟨o', es', ep', ho', r'⟩ := hm
    rw [ho] at ho'; cases ho'
    exact ⟨_, es', ep', hL, r'⟩) hok I.bare
theorem Inv.call {g' : Array GenState} {t' : Nat} {d' : Drawn} {ch : List Addr} (I : Inv X pins σ H s) (u : Un (frs X.stack) ch H H' s.heap h') (hok : HOk X.prog X.w H' h') (hg : AllBare g')
    (hch : ∀ b ∈ ch, (b ∈ X.ex ∨ X.s₀.heap.objs.size ≤ b) ∧ b ≠ X.env.locals ∧ (∀ x c, X.env.cells.lookup x = some c → c ≠ b) ∧ ∀ p ∈ X.pn ++ pins, p.1 ≠ b) :
    Inv X pins σ H' { s with heap := h', gens := g', drawn := d', toks := t' } := by
  obtain ⟨m, ⟨o, es, ep, ho, r⟩, _⟩ := id I.loc
  obtain ⟨sl, hL⟩ := u.any ho I.free fun z => (hch _ z).2.1 rfl
  exact I.step (ch := ch) hch (fun b o hL hb hc e n => u.keep b o e n (fun z => (List.mem_cons.mp (I.stkSub b z)).elim hL hb) hc) (fun b o _ _ hc e n => u.any e n hc) (fun b o hc e n => u.free b o e n hc) (fun b o hc e => u.there b o e hc) u.tups u.frzs u.tbls (fun m' hm => by
    obtain ⟨o', es', ep', ho', r'⟩ := hm
    rw [ho] at ho'; cases ho'
    exact ⟨_, es', ep', hL, r'⟩) hok hg
theorem Inv.turned {t' : Nat} {it : Addr} (I : Inv X pins σ H s) (k : ∀ b o, b ≠ it → s.heap.get? b = some o → h'.get? b = some o) (hn : H it = none) (hL : it ≠ X.env.locals)
    (h1 : it ∈ X.ex ∨ X.s₀.heap.objs.size ≤ it) (h2 : ∀ x c, X.env.cells.lookup x = some c → c ≠ it) (h3 : ∀ p ∈ X.pn ++ pins, p.1 ≠ it) : Inv X pins σ H { s with heap := h', toks := t' } := by
  have nit : ∀ b u, H b = some u → b ≠ it := fun b u e z => by rw [z, hn] at e; cases e
  refine I.step (g' := s.gens) (d' := s.drawn) (ch := [it]) (fun b hb => ?_) (fun b o _ _ hc e _ => k b o (fun z => hc (by simp [z])) e) (fun b o _ _ hc e _ => ⟨o.slots, k b o (fun z => hc (by simp [z])) e⟩) (fun _ _ _ _ n => n)
    (fun b o hc e => ⟨o, k b o (fun z => hc (by simp [z])) e⟩) (fun _ _ e => e) (fun _ _ _ e => e) (fun b ps e => ⟨#[], by rw [e]; simp⟩) (fun m hm => ?_) (fun b u e => ?_) I.bare
  · have e : b = it := by simpa using hb
    subst e
    exact ⟨h1, hL, h2, h3⟩
  · obtain ⟨o, es, ep, ho, r⟩ := hm
    exact ⟨o, es, ep, k _ o (Ne.symm hL) ho, r⟩
  · refine (I.hok b u e).stay (fun c v hc q => k c v ?_ q) (fun _ q => q) fun _ _ q => q
    rcases hc with z | z
    · rw [z]; exact nit b u e
    · exact nit c _ z
theorem Inv.tok (I : Inv X pins σ H s) (t : Nat) : Inv X pins σ H { s with toks := t } := I.un (h' := s.heap) (t' := t) Un.refl I.hok
theorem Inv.kept {t' : Nat} (I : Inv X pins σ H s) (k : ∀ b u, s.heap.get? b = some u → h'.get? b = some u) : Inv X pins σ H { s with heap := h', toks := t' } := I.un (Un.kept k) (I.hok.kept k)
theorem Inv.laid {a : Addr} {o : HO} {t' : Nat} (I : Inv X pins σ H s) (k : ∀ b u, s.heap.get? b = some u → h'.get? b = some u) (hp : s.heap.objs.size ≤ a) (new : ObjOk X.prog X.w (upd H a o) h' a o) :
    Inv X pins σ (upd H a o) { s with heap := h', toks := t' } := I.un (Un.laid k hp (I.hok.fresh hp)) (I.hok.laid k hp new)
theorem Inv.write {x e : Addr} {o : HO} {t' : Nat} (I : Inv X pins σ H s) (mu : Mut (H x)) (he : e = x ∨ H e = some (.own x)) (k : ∀ b u, b ≠ e → s.heap.get? b = some u → h'.get? b = some u) (heo : ∃ u, h'.get? e = some u)
    (new : ObjOk X.prog X.w (upd H x o) h' x o) : Inv X pins σ (upd H x o) { s with heap := h', toks := t' } := I.un (Un.write mu he k heo) (I.hok.write mu he k heo new)
theorem Inv.weak {σ' : List (Option V)} (I : Inv X pins σ H s) (hl : σ'.length = σ.length) (w : ∀ (i : Nat) v, σ'[i]? = some (some v) → σ[i]? = some (some v)) : Inv X pins σ' H s :=
  ⟨I.ok, I.os, I.bare, I.base, let ⟨m, hn, hl'⟩ := I.loc; ⟨m, hn, fun i x v e1 e2 e3 => hl' i x v e1 (w i v e2) e3⟩, I.cell, I.free, I.freeC, I.pin, I.hok, hl.trans I.len⟩
theorem Inv.pins_of {pins' : List (Addr × Obj)} (I : Inv X pins σ H s) (h : ∀ p ∈ pins', s.heap.get? p.1 = some p.2 ∧ H p.1 = none ∧ p.1 ≠ X.env.locals ∧ p.1 ∉ X.fs ∧ ∀ v, p.2.data ≠ .cell v) : Inv X pins' σ H s :=
  ⟨I.ok, I.os, I.bare, I.base, I.loc, I.cell, I.free, I.freeC, fun p hp => (List.mem_append.mp hp).elim (fun z => I.pin p (List.mem_append_left _ z)) (h p), I.hok, I.len⟩
theorem nodup_ix {N : List Str} (hN : N.Nodup) {i j : Nat} {x : Str} (a : N[i]? = some x) (b : N[j]? = some x) : i = j := by
  obtain ⟨h1, e1⟩ := List.getElem?_eq_some_iff.mp a
  obtain ⟨h2, e2⟩ := List.getElem?_eq_some_iff.mp b
  exact (List.getElem_inj hN).mp (e1.trans e2.symm)
theorem store_ok2 {M : Model} {A : Around} {E : Value → Shared → Prop} {i : Nat} {x : Str} {v : V} {u : Value} {Q : Unit → Shared → Prop} (I : Inv X pins σ H s) (hN : X.N.Nodup) (hi : X.N[i]? = some x) (hx : Loc X.env.scope x) (r : RelV v u)
    (h : ∀ s', Inv X pins (σ.set i (some v)) H s' → (∃ a, Heap.SameBut a s.heap s'.heap ∧ (a = X.env.locals ∨ X.env.cells.lookup x = some a)) → Q () s') (hf : X.fn x = true ∨ X.env.scope.names.lookup x = some .local := by first | exact .inl rfl | exact .inr rfl | assumption) : wpAny M A (storeName X.env x u) Q E s := by
  obtain ⟨m, hn, hl⟩ := id I.loc
  have hcls : (X.env.scope.kind == .class || (X.env.scope.kind == .module && X.env.locals != X.env.globals)) = false := by rw [I.ok.kind]; rfl
  have hiσ : i < σ.length := by rw [I.len]; exact (List.getElem?_eq_some_iff.mp hi).1
  have cne := I.cne
  have tracked : ∀ {a : Addr} {h' : Heap}, (∃ o, s.heap.get? a = some o ∧ H a = none) → Heap.SameBut a s.heap h' → HOk X.prog X.w H h' := fun {a h'} ha hs b ob e => by
    obtain ⟨_, _, hfree⟩ := ha
    refine (I.hok b ob e).stay (fun c w' hc q => (hs.2 c ?_).trans q) (fun _ q => q) fun _ _ q => q
    rintro rfl
    rcases hc with rfl | hc
    · rw [hfree] at e; cases e
    · rw [hfree] at hc; cases hc
  rcases hx with hk | hk
  · refine wpAny_storeName_local hk hn (fun h' hn' hs => ?_) hcls
    obtain ⟨oL, _, _, hoL, _⟩ := id hn
    refine h _ ⟨I.ok, I.os, I.bare, ⟨fun b o e n hb hx => ?_, fun b o e n hb hx => ?_, I.base.free, fun b o e hx => ?_, I.base.tups, I.base.frzs, I.base.tbls⟩, ⟨_, hn', fun j y v' e1 e2 e3 => ?_⟩, fun y c e => ?_, I.free, I.freeC, fun p hp => ?_, tracked ⟨oL, hoL, I.free⟩ hs, by simpa using I.len⟩ ⟨_, hs, .inl rfl⟩
    · exact (hs.2 b (Nat.ne_of_lt (Nat.lt_of_lt_of_le (Heap.lt_size e) I.ok.above))).trans (I.base.keep b o e n hb hx)
    · obtain ⟨sl, e1⟩ := I.base.slot b o e n hb hx
      exact ⟨sl, (hs.2 b (Nat.ne_of_lt (Nat.lt_of_lt_of_le (Heap.lt_size e) I.ok.above))).trans e1⟩
    · obtain ⟨o', e1⟩ := I.base.there b o e hx
      exact ⟨o', (hs.2 b (Nat.ne_of_lt (Nat.lt_of_lt_of_le (Heap.lt_size e) I.ok.above))).trans e1⟩
    · by_cases hj : j = i
      · subst hj
        rw [hi] at e1; cases e1
        rw [List.getElem?_set_self hiσ] at e2
        cases e2
        exact ⟨u, r, .inl ⟨hk, by simp⟩⟩
      · rw [List.getElem?_set_ne (Ne.symm hj)] at e2
        obtain ⟨u', r', q⟩ := hl j y v' e1 e2 e3
        refine ⟨u', r', ?_⟩
        rcases q with ⟨k, e⟩ | ⟨k, c, e, z⟩
        · refine .inl ⟨k, ?_⟩
          have : y ≠ x := fun e => hj (nodup_ix hN e1 (e ▸ hi))
          simp [this, e]
        · exact .inr ⟨k, c, e, z.sameBut hs (cne y c e)⟩
    · obtain ⟨w', z⟩ := I.cell y c e
      exact ⟨w', z.sameBut hs (cne y c e)⟩
    · obtain ⟨e, n, ne, nf, d⟩ := I.pin p hp
      exact ⟨(hs.2 p.1 ne).trans e, n, ne, nf, d⟩
  · have hfn : X.fn x = true := by
      rcases hf with z | z
      · exact z
      · rw [z] at hk; cases hk
    obtain ⟨c, hc⟩ := I.ok.has x (.inl hk)
    obtain ⟨w', z⟩ := I.cell x c hc
    refine wpAny_storeName_cell I.ok.kind hk hc z (fun h' hc' hs => ?_)
    obtain ⟨oc, hoc, hocd⟩ := id z
    refine h { s with heap := h' } ⟨I.ok, I.os, I.bare, ⟨fun b o e n hb hx => ?_, fun b o e n hb hx => ?_, I.base.free, fun b o e hx => ?_, I.base.tups, I.base.frzs, I.base.tbls⟩, ⟨m, hn.sameBut hs (Ne.symm (cne x c hc)), fun j y v' e1 e2 e3 => ?_⟩, fun y c' e => ?_, I.free, I.freeC, fun p hp => ?_, tracked ⟨oc, hoc, I.freeC x c hc⟩ hs, by simpa using I.len⟩ ⟨c, hs, .inr hc⟩
    · exact (hs.2 b (Nat.ne_of_lt (Nat.lt_of_lt_of_le (Heap.lt_size e) (I.ok.cab x c hfn hc)))).trans (I.base.keep b o e n hb hx)
    · obtain ⟨sl, e1⟩ := I.base.slot b o e n hb hx
      exact ⟨sl, (hs.2 b (Nat.ne_of_lt (Nat.lt_of_lt_of_le (Heap.lt_size e) (I.ok.cab x c hfn hc)))).trans e1⟩
    · obtain ⟨o', e1⟩ := I.base.there b o e hx
      exact ⟨o', (hs.2 b (Nat.ne_of_lt (Nat.lt_of_lt_of_le (Heap.lt_size e) (I.ok.cab x c hfn hc)))).trans e1⟩
    · by_cases hj : j = i
      · subst hj
        rw [hi] at e1; cases e1
        rw [List.getElem?_set_self hiσ] at e2
        cases e2
        exact ⟨u, r, .inr ⟨.inl hk, c, hc, hc'⟩⟩
      · rw [List.getElem?_set_ne (Ne.symm hj)] at e2
        obtain ⟨u', r', q⟩ := hl j y v' e1 e2 e3
        refine ⟨u', r', ?_⟩
        rcases q with q | ⟨k, c', e, z'⟩
        · exact .inl q
        · refine .inr ⟨k, c', e, z'.sameBut hs ?_⟩
          rintro rfl
          exact hj (nodup_ix hN e1 (I.ok.inj _ _ _ e hc ▸ hi))
    · by_cases hcc : c' = c
      · subst hcc; exact ⟨_, hc'⟩
      · obtain ⟨w2, z2⟩ := I.cell y c' e
        exact ⟨w2, z2.sameBut hs hcc⟩
    · obtain ⟨e, n, ne, nf, d⟩ := I.pin p hp
      refine ⟨(hs.2 p.1 ?_).trans e, n, ne, nf, d⟩
      intro q
      rw [q, hoc] at e
      have q' : oc = p.2 := Option.some.inj e
      exact d w' (by rw [← q']; exact hocd)
theorem store_ok {M : Model} {A : Around} {E : Value → Shared → Prop} {i : Nat} {x : Str} {v : V} {u : Value} {Q : Unit → Shared → Prop} (I : Inv X pins σ H s) (hN : X.N.Nodup) (hi : X.N[i]? = some x) (hx : Loc X.env.scope x) (r : RelV v u)
    (h : ∀ s', Inv X pins (σ.set i (some v)) H s' → Q () s') (hf : X.fn x = true ∨ X.env.scope.names.lookup x = some .local := by first | exact .inl rfl | exact .inr rfl | assumption) : wpAny M A (storeName X.env x u) Q E s :=
  store_ok2 I hN hi hx r (fun s' I' _ => h s' I') hf
theorem Inv.call' {s' : Shared} {ch : List Addr} (I : Inv X pins σ H s) (ho : s'.os = s.os) (u : Un (frs X.stack) ch H H' s.heap s'.heap) (hok : HOk X.prog X.w H' s'.heap) (hg : AllBare s'.gens)
    (hch : ∀ b ∈ ch, (b ∈ X.ex ∨ X.s₀.heap.objs.size ≤ b) ∧ b ≠ X.env.locals ∧ (∀ x c, X.env.cells.lookup x = some c → c ≠ b) ∧ ∀ p ∈ X.pn ++ pins, p.1 ≠ b) : Inv X pins σ H' s' := by
  obtain ⟨h', g', d', t', o'⟩ := s'
  have e : o' = s.os := ho
  subst e
  exact I.call (g' := g') (t' := t') (d' := d') u hok hg hch
end
abbrev XK := Value → Option Addr → Hp → Prop
abbrev St := List (Option V)
abbrev VK := V → Hp → Prop
abbrev TE := St → Hp → VK → Prop
abbrev TT := St → Hp → (Bool → Hp → Prop) → Prop
abbrev TA := St → Hp → (List V → Hp → Prop) → Prop
structure Ends where
  nx : St → Hp → Prop
  rt : VK
  bk : St → Hp → Prop := fun _ _ => False
  ct : St → Hp → Prop := fun _ _ => False
abbrev TS := Ends → St → Hp → Prop
def EP (X : Cx) (pins : List (Addr × Obj)) (σ : St) (Q : VK) (u : Value) (s' : Shared) : Prop := ∃ v H', Inv X pins σ H' s' ∧ RelV v u ∧ Q v H'
def TP (X : Cx) (pins : List (Addr × Obj)) (σ : St) (Q : Bool → Hp → Prop) (b : Bool) (s' : Shared) : Prop := ∃ H', Inv X pins σ H' s' ∧ Q b H'
def AP (X : Cx) (pins : List (Addr × Obj)) (σ : St) (Q : List V → Hp → Prop) (us : List Value) (s' : Shared) : Prop := ∃ vs H', Inv X pins σ H' s' ∧ Vals vs us ∧ Q vs H'
def SP (X : Cx) (pins : List (Addr × Obj)) (D : Ends) (f : Flow) (s' : Shared) : Prop :=
  match f with
  | .next => ∃ σ' H', Inv X pins σ' H' s' ∧ D.nx σ' H'
  | .brk => ∃ σ' H', Inv X pins σ' H' s' ∧ D.bk σ' H'
  | .cont => ∃ σ' H', Inv X pins σ' H' s' ∧ D.ct σ' H'
  | .ret u => ∃ v σ' H', Inv X pins σ' H' s' ∧ RelV v u ∧ D.rt v H'
def PE (X : Cx) (e : Expr) (t : TE) : Prop :=
  ∀ (pins : List (Addr × Obj)) (s : Shared) (σ : St) (H : Hp) (Q : VK), Inv X pins σ H s → t σ H Q → wpAny (model X.prog X.w) X.A (eval e X.env) (EP X pins σ Q) X.xe s
def PT (X : Cx) (e : Expr) (t : TT) : Prop :=
  ∀ (pins : List (Addr × Obj)) (s : Shared) (σ : St) (H : Hp) (Q : Bool → Hp → Prop), Inv X pins σ H s → t σ H Q → wpAny (model X.prog X.w) X.A (isTrue e X.env (eval e X.env)) (TP X pins σ Q) X.xe s
def PW (X : Cx) (e : Expr) (t : TT) : Prop :=
  ∀ (whole : Sem Value) (pins : List (Addr × Obj)) (s : Shared) (σ : St) (H : Hp) (Q : Bool → Hp → Prop), Inv X pins σ H s → t σ H Q → wpAny (model X.prog X.w) X.A (isTrue e X.env whole) (TP X pins σ Q) X.xe s
theorem PW.pt {X : Cx} {e : Expr} {t : TT} (h : PW X e t) : PT X e t := h _
def PA (X : Cx) (es : List Expr) (t : TA) : Prop :=
  ∀ (pos : Pos) (pins : List (Addr × Obj)) (s : Shared) (σ : St) (H : Hp) (Q : List V → Hp → Prop), Inv X pins σ H s → t σ H Q → wpAny (model X.prog X.w) X.A (spliced (backTo pos (starEach es X.env))) (AP X pins σ Q) X.xe s
def PS (X : Cx) (st : Stmt) (t : TS) : Prop :=
  ∀ (pins : List (Addr × Obj)) (s : Shared) (σ : St) (H : Hp) (D : Ends), Inv X pins σ H s → t D σ H → wpAny (model X.prog X.w) X.A (exec st X.env) (SP X pins D) X.xe s
def PSs (X : Cx) (st : List Stmt) (t : TS) : Prop :=
  ∀ (pins : List (Addr × Obj)) (s : Shared) (σ : St) (H : Hp) (D : Ends), Inv X pins σ H s → t D σ H → wpAny (model X.prog X.w) X.A (execs st X.env) (SP X pins D) X.xe s
theorem thn {α : Type} {t : Sem α} {Q Q' : α → Shared → Prop} {M : Model} {A : Around} {E : Value → Shared → Prop} {s : Shared} (h : wpAny M A t Q E s) (hQ : ∀ a s, Q a s → Q' a s) : wpAny M A t Q' E s := wpAny_mono h hQ fun _ _ x => x
end L2
namespace L2
open PySem PySem.Spec PyProof.Rows
section
variable {X : Cx}
def tVar (i : Nat) : TE := fun σ H Q => ∃ v, σ[i]? = some (some v) ∧ Q v H
def tC (v : V) : TE := fun _ H Q => Q v H
theorem pe_var {i : Nat} {x : Str} {pos : Pos} (hN : X.N[i]? = some x) (hv : Vis X.env.scope x) (hd : (x == ("__debug__" : Str)) = false := by decide) (hcd : (x == ("__classdict__" : Str)) = false := by decide) : PE X (.Name x pos) (tVar i) := by
  intro pins s σ H Q I h
  obtain ⟨v, e, h⟩ := h
  obtain ⟨m, hn, hl⟩ := I.loc
  obtain ⟨u, r, l⟩ := hl i x v hN e hv
  have fin : EP X pins σ Q u s := ⟨v, H, I, r, h⟩
  rcases l with ⟨hk, hm⟩ | ⟨hk, c, hc, hcell⟩
  · exact wpAny_Name (wpAny_loadName_local I.ok.kind hk hn hm fin) hd
  · rcases hk with hk | hk
    · exact wpAny_Name (wpAny_loadName_cell I.ok.kind hk hc hcell fin) hd
    · exact wpAny_Name (wpAny_loadName_free I.ok.kind hk hc hcell fin hcd) hd
theorem pe_int {i j pos} : PE X (.Constant (.int i) j pos) (tC (.int i)) := fun _ _ _ H _ I h => wpAny_Constant_int ⟨.int i, H, I.tok _, ⟨_, rfl⟩, h⟩
theorem pe_bl {b j pos} : PE X (.Constant (.bool b) j pos) (tC (.bl b)) := fun _ _ _ H _ I h => Constant_bool ⟨.bl b, H, I, rfl, h⟩
theorem pe_non {j pos} : PE X (.Constant .none j pos) (tC .non) := fun _ _ _ H _ I h => Constant_none ⟨.non, H, I, rfl, h⟩
theorem pe_str {x j pos} : PE X (.Constant (.str x) j pos) (tC (.str x)) := fun _ _ _ H _ I h => Calls.Constant_str ⟨.str x, H, I.tok _, ⟨_, rfl⟩, h⟩
def Gl (X : Cx) (x : Str) : Prop := X.env.kindOf x = some .globalImplicit
theorem ld_glob {E : Value → Shared → Prop} {pins : List (Addr × Obj)} {s : Shared} {σ : St} {H : Hp} {x : Str} {u : Value} {pos : Pos} {Q : Value → Shared → Prop} (I : Inv X pins σ H s) (hg : Gl X x) (hm : X.mg x = some u) (h : Q u s)
    (hd : (x == ("__debug__" : Str)) = false := by decide) : wpAny (model X.prog X.w) X.A (eval (.Name x pos) X.env) Q E s :=
  Calls.Name_function_global I.ok.kind hg (Calls.loadGlobal_global (by rw [I.ok.glob]; exact I.mod.glob.keeps I.bk) hm h) hd
theorem ld_blt {E : Value → Shared → Prop} {pins : List (Addr × Obj)} {s : Shared} {σ : St} {H : Hp} {x : Str} {u : Value} {pos : Pos} {Q : Value → Shared → Prop} (I : Inv X pins σ H s) (hg : Gl X x) (hm : X.mg x = none) (hv : bootBuiltins x = some u) (h : Q u s)
    (hn : x ≠ "__name__" := by decide) (hd : (x == ("__debug__" : Str)) = false := by decide) : wpAny (model X.prog X.w) X.A (eval (.Name x pos) X.env) Q E s := by
  obtain ⟨mb, h1, h2⟩ := I.mod.blt
  exact Calls.Name_function_global I.ok.kind hg (Calls.loadGlobal_builtin (by rw [I.ok.glob]; exact I.mod.glob.keeps I.bk) hm (by rw [I.ok.blt]; exact h1.keeps I.bk) ((h2 x hn).trans hv) h) hd
theorem pe_glob {x : Str} {v : V} {u : Value} {pos : Pos} (hg : Gl X x) (hm : X.mg x = some u) (r : RelV v u) (hd : (x == ("__debug__" : Str)) = false := by decide) : PE X (.Name x pos) (tC v) :=
  fun _ _ _ H _ I h => ld_glob I hg hm ⟨v, H, I, r, h⟩ hd
theorem pe_bltn {x : Str} {v : V} {u : Value} {pos : Pos} (hg : Gl X x) (hm : X.mg x = none) (hv : bootBuiltins x = some u) (r : RelV v u) (hn : x ≠ "__name__" := by decide) (hd : (x == ("__debug__" : Str)) = false := by decide) : PE X (.Name x pos) (tC v) :=
  fun _ _ _ H _ I h => ld_blt I hg hm hv ⟨v, H, I, r, h⟩ hn hd
variable {a b : Expr} {ta tb : TE} {pos : Pos}
def tB (t : TE) : TT := fun σ H Q => t σ H fun x H1 => ∃ c, x = .bl c ∧ Q c H1
theorem pt_val {e : Expr} {t : TE} (h : PE X e t) (he : ∀ whole, isTrue e X.env whole = (do let v ← whole; standAt e.pos; holding [v] (truthy v)) := by intro _; rfl) : PT X e (tB t) := by
  intro pins s σ H Q I hw
  refine isTrue_plain (thn (h pins s σ H _ I hw) fun v s1 ⟨x, H1, I1, r1, q1⟩ => ?_) (he _)
  obtain ⟨d, rfl, q⟩ := q1
  cases r1
  exact wpAny_truthy_bool ⟨H1, I1, q⟩
variable {tA tB' : TT} {rest : List Expr}
def tAnd (t u : TT) : TT := fun σ H Q => t σ H fun c H1 => if c = true then u σ H1 Q else Q false H1
def tOr (t u : TT) : TT := fun σ H Q => t σ H fun c H1 => if c = true then Q true H1 else u σ H1 Q
def tNot (t : TT) : TT := fun σ H Q => t σ H fun c H1 => Q (!c) H1
theorem pw_and1 (ha : PT X a tA) : PW X (.BoolOp .And [a] pos) tA := by
  intro wh pins s σ H Q I h
  refine isTrue_and (thn (ha pins s σ H Q I h) fun c s1 e => ?_)
  cases c with
  | true => exact isTrue_and_nil e
  | false => exact e
theorem pw_or1 (ha : PT X a tA) : PW X (.BoolOp .Or [a] pos) tA := by
  intro wh pins s σ H Q I h
  refine isTrue_or (thn (ha pins s σ H Q I h) fun c s1 e => ?_)
  cases c with
  | false => exact isTrue_or_nil e
  | true => exact e
theorem pw_and (ha : PT X a tA) (hb : PW X (.BoolOp .And (b :: rest) pos) tB') : PW X (.BoolOp .And (a :: b :: rest) pos) (tAnd tA tB') := by
  intro wh pins s σ H Q I h
  refine isTrue_and (thn (ha pins s σ H _ I h) fun c s1 ⟨H1, I1, q1⟩ => ?_)
  cases c with
  | true => exact hb wh pins s1 σ H1 Q I1 q1
  | false => exact ⟨H1, I1, q1⟩
theorem pw_or (ha : PT X a tA) (hb : PW X (.BoolOp .Or (b :: rest) pos) tB') : PW X (.BoolOp .Or (a :: b :: rest) pos) (tOr tA tB') := by
  intro wh pins s σ H Q I h
  refine isTrue_or (thn (ha pins s σ H _ I h) fun c s1 ⟨H1, I1, q1⟩ => ?_)
  cases c with
  | true => exact ⟨H1, I1, q1⟩
  | false => exact hb wh pins s1 σ H1 Q I1 q1
theorem pt_not (ha : PT X a tA) : PT X (.UnaryOp .Not a pos) (tNot tA) := by
  intro pins s σ H Q I h
  exact isTrue_not (ha pins s σ H (fun c H1 => Q (!c) H1) I h)
def tAndV (ta tb : TE) : TE := fun σ H Q => ta σ H fun x H1 => ∃ c, x = .bl c ∧ if c = true then tb σ H1 Q else Q (.bl false) H1
theorem pe_one {op} {t : TE} (h : PE X a t) : PE X (.BoolOp op [a] pos) t := fun pins s σ H Q I hw => BoolOp_one (h pins s σ H Q I hw)
theorem pe_and (ha : PE X a ta) (hb : PE X (.BoolOp .And (b :: rest) pos) tb) : PE X (.BoolOp .And (a :: b :: rest) pos) (tAndV ta tb) := by
  intro pins s σ H Q I h
  refine BoolOp_and (thn (ha pins s σ H _ I h) fun v s1 ⟨x, H1, I1, r1, q1⟩ => ?_)
  obtain ⟨c, rfl, q1⟩ := q1
  cases r1
  refine wpAny_truthy_bool ?_
  cases c with
  | true => exact hb pins s1 σ H1 Q I1 q1
  | false => exact ⟨.bl false, H1, I1, rfl, q1⟩
end
end L2
namespace L2
open PySem PySem.Spec PyProof.Rows
def SqL (K : PySem.W.Frag) (H : Hp) (a : Addr) (xs : List V) : Prop :=
  Rd H a (.lst xs) ∨
    ∃ (o : Obj) (its : Array Value) (n : Nat), K.lookup a = some o ∧ o.cls = .type "list" ∧ o.dict = none ∧ o.data = .seq its n ∧ its.size ≤ sizeLine ∧ Vals xs its.toList
def SqT (K : PySem.W.Frag) (H : Hp) (a : Addr) (xs : List V) : Prop :=
  Rd H a (.tup xs) ∨
    ∃ (o : Obj) (its : Array Value) (n : Nat), K.lookup a = some o ∧ o.cls = .type "tuple" ∧ o.data = .seq its n ∧ its.size ≤ sizeLine ∧ Vals xs its.toList
def absV : Value → Option V
  | .none => some .non
  | .bool b => some (.bl b)
  | .int i _ => some (.int i)
  | .str x _ => some (.str x)
  | .bytes b _ => some (.byt b)
  | .float b _ => some (.flt b)
  | .ref a => some (.ref a)
  | .type n => some (.ty n)
  | _ => none
theorem RelV.abs {x : V} {u : Value} (r : RelV x u) : absV u = some x := by
  cases x with
  | non => cases r; rfl
  | bl _ => cases r; rfl
  | int _ => obtain ⟨t, rfl⟩ := r; rfl
  | str _ => obtain ⟨t, rfl⟩ := r; rfl
  | byt _ => obtain ⟨t, rfl⟩ := r; rfl
  | flt _ => obtain ⟨t, rfl⟩ := r; rfl
  | ref _ => cases r; rfl
  | ty _ => cases r; rfl
theorem RelV.inj {x y : V} {u : Value} (r : RelV x u) (q : RelV y u) : x = y := Option.some.inj (r.abs.symm.trans q.abs)
theorem Vals.inj : ∀ {xs ys : List V} {us : List Value}, Vals xs us → Vals ys us → xs = ys
  | _, _, _, .nil, .nil => rfl
  | _, _, _, .cons r t, .cons r' t' => by rw [r.inj r', Vals.inj t t']
section
variable {X : Cx} {pins : List (Addr × Obj)} {σ : St} {H : Hp} {s : Shared} {a : Addr} {xs ys : List V}
theorem SqL.of {K : PySem.W.Frag} (h : H a = some (.lst xs)) : SqL K H a xs := .inl (.inl h)
theorem SqT.of {K : PySem.W.Frag} (h : H a = some (.tup xs)) : SqT K H a xs := .inl (.inl h)
theorem Inv.list (I : Inv X pins σ H s) (h : SqL X.K H a xs) : ∃ its : List Value, Vals xs its ∧ PlainL s.heap a its.toArray ∧ xs.length ≤ sizeLine := by
  rcases h with h | ⟨o, its, n, hk, hc, hd, hs, hz, r⟩
  · obtain ⟨z, its, n, r, e⟩ := h.ok I.hok
    exact ⟨its, r, ⟨_, n, e, rfl, rfl, rfl⟩, z⟩
  · refine ⟨its.toList, r, ⟨o, n, I.kIn a o hk, hc, hd, by simpa using hs⟩, ?_⟩
    have e := r.length
    simp only [Array.length_toList] at e
    omega
theorem Inv.tuple (I : Inv X pins σ H s) (h : SqT X.K H a xs) : ∃ its : List Value, Vals xs its ∧ IsTup s.heap a its.toArray ∧ xs.length ≤ sizeLine := by
  rcases h with h | ⟨o, its, n, hk, hc, hs, hz, r⟩
  · obtain ⟨z, its, r, p⟩ := h.ok I.hok
    exact ⟨its, r, p, z⟩
  · refine ⟨its.toList, r, ⟨o, I.kIn a o hk, hc, n, by simpa using hs⟩, ?_⟩
    have e := r.length
    simp only [Array.length_toList] at e
    omega
theorem Inv.list_inj (I : Inv X pins σ H s) (h : SqL X.K H a xs) (h' : SqL X.K H a ys) : xs = ys := by
  obtain ⟨its, r, ⟨o, n, e, _, _, d⟩, _⟩ := I.list h
  obtain ⟨its', r', ⟨o', n', e', _, _, d'⟩, _⟩ := I.list h'
  rw [e] at e'; cases e'
  rw [d] at d'
  injection d' with d1 _
  have : its = its' := by simpa using congrArg Array.toList d1
  subst this
  exact r.inj r'
theorem Inv.tuple_inj (I : Inv X pins σ H s) (h : SqT X.K H a xs) (h' : SqT X.K H a ys) : xs = ys := by
  obtain ⟨its, r, ⟨o, e, _, n, d⟩, _⟩ := I.tuple h
  obtain ⟨its', r', ⟨o', e', _, n', d'⟩, _⟩ := I.tuple h'
  rw [e] at e'; cases e'
  rw [d] at d'
  injection d' with d1 _
  have : its = its' := by simpa using congrArg Array.toList d1
  subst this
  exact r.inj r'
end
abbrev Cx.wish (X : Cx) (E : Value → Shared → Prop) : Cx := { X with xe := E }
abbrev Cx.nox (X : Cx) : Cx := X.wish fun _ _ => False
theorem Cx.Ok.wish {X : Cx} (ok : X.Ok) (E : Value → Shared → Prop) : (X.wish E).Ok :=
  ⟨ok.mod, ok.kind, ok.glob, ok.blt, ok.above, ok.inj, ok.has, ok.cab, ok.hd, ok.frames, ok.stk, ok.exf, ok.bs, ok.bsz, ok.noex, ok.exfs, ok.funs, ok.frf⟩
theorem Cx.Ok.unwish {X : Cx} {E : Value → Shared → Prop} (ok : (X.wish E).Ok) : X.Ok :=
  ⟨ok.mod, ok.kind, ok.glob, ok.blt, ok.above, ok.inj, ok.has, ok.cab, ok.hd, ok.frames, ok.stk, ok.exf, ok.bs, ok.bsz, ok.noex, ok.exfs, ok.funs, ok.frf⟩
section
variable {X : Cx} {pins : List (Addr × Obj)} {σ : St} {H : Hp} {s : Shared} {E : Value → Shared → Prop}
theorem Inv.wish (I : Inv X pins σ H s) (E : Value → Shared → Prop) : Inv (X.wish E) pins σ H s := ⟨I.ok.wish E, I.os, I.bare, I.base, I.loc, I.cell, I.free, I.freeC, I.pin, I.hok, I.len⟩
theorem Inv.unwish (I : Inv (X.wish E) pins σ H s) : Inv X pins σ H s := ⟨I.ok.unwish, I.os, I.bare, I.base, I.loc, I.cell, I.free, I.freeC, I.pin, I.hok, I.len⟩
theorem SP.unwish {D : Ends} {f : Flow} {s' : Shared} (h : SP (X.wish E) pins D f s') : SP X pins D f s' := by
  cases f with
  | next => obtain ⟨σ', H', I, q⟩ := h; exact ⟨σ', H', I.unwish, q⟩
  | brk => obtain ⟨σ', H', I, q⟩ := h; exact ⟨σ', H', I.unwish, q⟩
  | cont => obtain ⟨σ', H', I, q⟩ := h; exact ⟨σ', H', I.unwish, q⟩
  | ret u => obtain ⟨v, σ', H', I, r, q⟩ := h; exact ⟨v, σ', H', I.unwish, r, q⟩
theorem PE.nox {e : Expr} {t : TE} (h : PE X.nox e t) : PE X e t := fun pins s σ H Q I hw =>
  wpAny_mono (h pins s σ H Q (I.wish _) hw) (fun _ _ ⟨v, H', I', r, q⟩ => ⟨v, H', I'.unwish, r, q⟩) fun _ _ z => False.elim z
theorem PT.nox {e : Expr} {t : TT} (h : PT X.nox e t) : PT X e t := fun pins s σ H Q I hw =>
  wpAny_mono (h pins s σ H Q (I.wish _) hw) (fun _ _ ⟨H', I', q⟩ => ⟨H', I'.unwish, q⟩) fun _ _ z => False.elim z
theorem PSs.nox {st : List Stmt} {t : TS} (h : PSs X.nox st t) : PSs X st t := fun pins s σ H D I hw =>
  wpAny_mono (h pins s σ H D (I.wish _) hw) (fun _ _ q => q.unwish) fun _ _ z => False.elim z
end
section
variable {X : Cx} {st : Stmt} {rest : List Stmt} {t u : TS} {e : Expr} {te : TE} {pos : Pos}
def tNext : TS := fun D σ H => D.nx σ H
def tSeq (t u : TS) : TS := fun D σ H => t { D with nx := u D } σ H
theorem pss_nil : PSs X [] tNext := fun _ _ σ H _ I h => wpAny_execs_nil ⟨σ, H, I, h⟩
theorem pss_cons (h1 : PS X st t) (h2 : PSs X rest u) : PSs X (st :: rest) (tSeq t u) := by
  intro pins s σ H D I h
  refine wpAny_execs_cons (thn (h1 pins s σ H { D with nx := u D } I h) fun f s1 q => ?_)
  cases f with
  | next =>
    obtain ⟨σ', H', I', q⟩ := q
    exact h2 pins s1 σ' H' D I' q
  | ret v => exact q
  | brk => exact q
  | cont => exact q
theorem pss_one (h1 : PS X st t) : PSs X [st] t := by
  intro pins s σ H D I h
  refine wpAny_execs_cons (thn (h1 pins s σ H D I h) fun f s1 q => ?_)
  cases f with
  | next => exact wpAny_execs_nil q
  | ret v => exact q
  | brk => exact q
  | cont => exact q
theorem Inv.quiet {pins : List (Addr × Obj)} {σ : St} {H : Hp} {s : Shared} (I : Inv X pins σ H s) : interactive X.env = false := by simp [interactive, I.ok.kind]
def tDrop (te : TE) : TS := fun D σ H => te σ H fun _ H1 => D.nx σ H1
theorem ps_expr (he : PE X e te) (hs : swapsWith e none pos.line X.env = pure false := by rfl) : PS X (.Expr e pos) (tDrop te) := by
  intro pins s σ H D I h
  exact wpAny_Expr_any (thn (he pins s σ H _ I h) fun v s1 ⟨x, H1, I1, r1, q1⟩ => ⟨σ, H1, I1, q1⟩) I.quiet hs
def tRet (te : TE) : TS := fun D σ H => te σ H D.rt
theorem ps_ret (he : PE X e te) : PS X (.Return (some e) pos) (tRet te) := by
  intro pins s σ H D I h
  exact wpAny_Return_some (thn (he pins s σ H _ I h) fun v s1 ⟨x, H1, I1, r1, q1⟩ => ⟨x, σ, H1, I1, r1, q1⟩)
def tIfS (c : TT) (t u : TS) : TS := fun D σ H => c σ H fun b H1 => if b = true then t D σ H1 else u D σ H1
theorem ps_if {c : Expr} {a b : List Stmt} {tc : TT} (hc : PT X c tc) (ha : PSs X a t) (hb : PSs X b u) : PS X (.If c a b pos) (tIfS tc t u) := by
  intro pins s σ H D I h
  refine wpAny_If (thn (hc pins s σ H _ I h) fun d s1 ⟨H1, I1, q1⟩ => ?_)
  cases d with
  | true => exact ha pins s1 σ H1 D I1 q1
  | false => exact hb pins s1 σ H1 D I1 q1
end
abbrev TG := V → St → Hp → (St → Hp → Prop) → Prop
abbrev TGs := List V → St → Hp → (St → Hp → Prop) → Prop
def PG (X : Cx) (target : Expr) (t : TG) : Prop :=
  ∀ (pins : List (Addr × Obj)) (s : Shared) (σ : St) (H : Hp) (v : V) (u : Value) (Q : St → Hp → Prop), Inv X pins σ H s → RelV v u → t v σ H Q →
    wpAny (model X.prog X.w) X.A (assign target X.env u) (fun _ s' => ∃ σ' H', Inv X pins σ' H' s' ∧ Q σ' H') X.xe s
def PGs (X : Cx) (ts : List Expr) (t : TGs) : Prop :=
  ∀ (pins : List (Addr × Obj)) (s : Shared) (σ : St) (H : Hp) (vs : List V) (us : List Value) (Q : St → Hp → Prop), Inv X pins σ H s → Vals vs us → t vs σ H Q →
    wpAny (model X.prog X.w) X.A (assignInOrder ((assignEach ts X.env).map (·.2)) us) (fun _ s' => ∃ σ' H', Inv X pins σ' H' s' ∧ Q σ' H') X.xe s
section
variable {X : Cx} {pos : Pos}
def gName (i : Nat) : TG := fun v σ H Q => Q (σ.set i (some v)) H
theorem pg_name {i : Nat} {x : Str} (hN : X.N.Nodup) (hi : X.N[i]? = some x) (hx : Loc X.env.scope x) (hf : X.fn x = true ∨ X.env.scope.names.lookup x = some .local := by first | exact .inl rfl | exact .inr rfl | assumption) : PG X (.Name x pos) (gName i) := by
  intro pins s σ H v u Q I r h
  exact wpAny_assign_Name (store_ok I hN hi hx r (fun s' I' => ⟨_, H, I', h⟩) hf)
def gNil : TGs := fun vs σ H Q => vs = [] ∧ Q σ H
def gCons (t : TG) (u : TGs) : TGs := fun vs σ H Q => ∃ v r, vs = v :: r ∧ t v σ H fun σ' H' => u r σ' H' Q
theorem pgs_nil : PGs X [] gNil := by
  intro pins s σ H vs us Q I r h
  obtain ⟨e, h⟩ := h
  subst e
  cases r
  exact assignInOrder_nil ⟨σ, H, I, h⟩
theorem pgs_cons {e : Expr} {es : List Expr} {t : TG} {u : TGs} (h1 : PG X e t) (h2 : PGs X es u)
    (hs : (assignEach (e :: es) X.env).map (·.2) = assign e X.env :: (assignEach es X.env).map (·.2) := by rfl) : PGs X (e :: es) (gCons t u) := by
  intro pins s σ H vs us Q I r h
  obtain ⟨v, vr, e1, h⟩ := h
  subst e1
  cases r with
  | cons r rr =>
    rw [hs]
    refine assignInOrder_cons (thn (h1 pins s σ H _ _ _ I r h) fun _ s1 ⟨σ1, H1, I1, q1⟩ => ?_)
    exact h2 pins s1 σ1 H1 _ _ Q I1 rr q1
def gTup (K : PySem.W.Frag) (n : Nat) (t : TGs) : TG := fun v σ H Q => ∃ a xs, v = .ref a ∧ SqT K H a xs ∧ xs.length = n ∧ t xs σ H Q
theorem pg_tup {es : List Expr} {k : Nat} {t : TGs} {n : Nat} (hc : X.calm = true) (h : PGs X es t)
    (hn : (assignEach es X.env).length = n := by rfl) (hst : (assignEach es X.env).findIdx? (·.1) = none := by rfl) : PG X (.Tuple es k pos) (gTup X.K n t) := by
  intro pins s σ H v u Q I r hw
  obtain ⟨a, xs, e1, hq, hl, hw⟩ := hw
  subst e1
  cases r
  obtain ⟨its, rv, ht, hz⟩ := I.tuple hq
  refine assign_Tuple_tuple (I.ok.hd hc) ht (by simp [hn, ← hl, rv.length]) hst fun h' hx => ?_
  have I1 : Inv X pins σ H { s with heap := h' } := I.kept (t' := s.toks) fun b o e => hx b o (Nat.ne_of_lt (Heap.lt_size e)) e
  exact h pins _ σ H xs _ Q I1 (by simpa using rv) hw
def tAsg (te : TE) (g : TG) : TS := fun D σ H => te σ H fun x H1 => g x σ H1 D.nx
theorem ps_set {i : Nat} {x : Str} {e : Expr} {te : TE} {pos' : Pos} (hN : X.N.Nodup) (hi : X.N[i]? = some x) (hx : Loc X.env.scope x) (he : PE X e te) (hs : swapsWith e (some (.Name x pos')) pos.line X.env = pure false := by rfl) (hf : X.fn x = true ∨ X.env.scope.names.lookup x = some .local := by first | exact .inl rfl | exact .inr rfl | assumption) :
    PS X (.Assign [.Name x pos'] e pos) (tAsg te (gName i)) := by
  intro pins s σ H D I h
  refine wpAny_Assign_Name (thn (he pins s σ H _ I h) fun v s1 ⟨y, H1, I1, r1, q1⟩ => ?_) hs
  exact store_ok I1 hN hi hx r1 (fun s2 I2 => ⟨_, H1, I2, q1⟩) hf
end
section
variable {X : Cx} {pos : Pos}
end
structure It where
  go : Nat → Hp → Prop
  yld : Nat → Hp → V → Hp → Prop
  stop : Nat → Hp → Prop
def FpOk (X : Cx) (pins : List (Addr × Obj)) (H : Hp) (b : Addr) : Prop :=
  H b = none ∧ b ≠ X.env.locals ∧ b ∉ X.fs ∧ (b ∈ X.ex ∨ X.s₀.heap.objs.size ≤ b) ∧ (∀ x c, X.env.cells.lookup x = some c → c ≠ b) ∧ ∀ p ∈ X.pn ++ pins, p.1 ≠ b
theorem Inv.fpOk {X : Cx} {pins : List (Addr × Obj)} {σ : St} {H H' : Hp} {s : Shared} {b : Addr} (I : Inv X pins σ H s) (hb : s.heap.objs.size ≤ b) (hn : H' b = none) : FpOk X pins H' b := by
  refine ⟨hn, Nat.ne_of_gt (Nat.lt_of_lt_of_le I.lt hb), I.nofs hb, .inr (Nat.le_trans I.sz hb), fun x c e z => ?_, fun p hp z => ?_⟩
  · obtain ⟨v, q⟩ := I.cell x c e
    exact absurd (Nat.lt_of_lt_of_le q.lt (by rw [z]; exact hb)) (Nat.lt_irrefl _)
  · exact absurd (Nat.lt_of_lt_of_le (Heap.lt_size (I.pin p hp).1) (by rw [z]; exact hb)) (Nat.lt_irrefl _)
structure Turn (P : Program) (w : World) (K : PySem.W.Frag) (tg : Expr) (J : It) (fp : List Addr) (it : Addr) (tn : Nat → Heap → Prop) : Prop where
  mem : it ∈ fp
  obj : ∀ i h, tn i h → ∀ b ∈ fp, ∃ o, h.get? b = some o ∧ ∀ v, o.data ≠ .cell v
  keep : ∀ i h h', tn i h → (∀ b ∈ fp, ∀ o, h.get? b = some o → h'.get? b = some o) → tn i h'
  item : ∀ (X : Cx), X.prog = P → X.w = w → X.K = K → X.calm = true → ∀ (i : Nat) (pins : List (Addr × Obj)) (s : Shared) (σ : St) (H : Hp) (E : Value → Shared → Prop), Inv X pins σ H s → (∀ b ∈ fp, FpOk X pins H b) → tn i s.heap → J.go i H →
    wpAny (model P w) X.A (pyNext (.ref it)) (fun r s1 => ∃ u, r = some u ∧
      wpAny (model P w) X.A (letOwnedTupleGo tg (.ref it) u) (fun _ s2 => ∃ x H', Inv X pins σ H' s2 ∧ RelV x u ∧ J.yld i H x H' ∧ tn (i + 1) s2.heap ∧ ∀ b ∈ fp, H' b = none) E s1) E s
  done : ∀ (X : Cx), X.prog = P → X.w = w → X.K = K → X.calm = true → ∀ (i : Nat) (pins : List (Addr × Obj)) (s : Shared) (σ : St) (H : Hp) (E : Value → Shared → Prop), Inv X pins σ H s → (∀ b ∈ fp, FpOk X pins H b) → tn i s.heap → J.stop i H →
    wpAny (model P w) X.A (pyNext (.ref it)) (fun r s1 => r = none ∧ Inv X pins σ H s1) E s
  self : ∀ (A : Around) (i : Nat) (s : Shared) (Q : Value → Shared → Prop) (E : Value → Shared → Prop), tn i s.heap → Q (.ref it) s → wpAny (model P w) A (pyIter (.ref it)) Q E s
abbrev TI := St → Hp → (It → Hp → Prop) → Prop
def PIE (X : Cx) (pins : List (Addr × Obj)) (σ : St) (tg : Expr) (R : It → Hp → Prop) (itv : Value) (s2 : Shared) : Prop :=
  ∃ (it : Addr) (fp : List Addr) (tn : Nat → Heap → Prop) (J : It) (H' : Hp), itv = .ref it ∧ Inv X pins σ H' s2 ∧ Turn X.prog X.w X.K tg J fp it tn ∧ tn 0 s2.heap ∧ (∀ b ∈ fp, FpOk X pins H' b) ∧ R J H'
def PI (X : Cx) (tg iter : Expr) (wi : TI) : Prop :=
  ∀ (pins : List (Addr × Obj)) (s : Shared) (σ : St) (H : Hp) (R : It → Hp → Prop), Inv X pins σ H s → wi σ H R →
    wpAny (model X.prog X.w) X.A (eval iter X.env) (fun v s1 => wpAny (model X.prog X.w) X.A (pyIter v) (PIE X pins σ tg R) X.xe s1) X.xe s
theorem go_of {M : Model} {A : Around} {E : Value → Shared → Prop} {s : Shared} {tg : Expr} {it : Addr} {u : Value} {o : Obj} {n : String} {vs : Array Value} {Q : Unit → Shared → Prop} (ho : s.heap.get? it = some o) (hc : o.cls = .type n) (hd : o.data = .fields vs)
    (hn : ["enumerate", "zip", "dict_itemiterator", "dict_reverseitemiterator", "odict_iterator", "itertools.zip_longest", "itertools.pairwise"].contains n = false) (hQ : Q () s) : wpAny M A (letOwnedTupleGo tg (.ref it) u) Q E s := by
  unfold letOwnedTupleGo
  cases tg <;> first
    | exact wpAny_pure hQ
    | (cases u <;> first
        | exact wpAny_pure hQ
        | (refine wpAny_bind (wpAny_load ho ?_)
           rw [hc, hd]
           show wpAny M A (if (["enumerate", "zip", "dict_itemiterator", "dict_reverseitemiterator", "odict_iterator", "itertools.zip_longest", "itertools.pairwise"].contains n && vs[0]? == some (rawInt _)) = true then _ else _) Q E s
           rw [if_neg (by intro h; rw [hn, Bool.false_and] at h; cases h)]
           exact wpAny_pure hQ))
def Itl (K : PySem.W.Frag) (a : Addr) : It :=
  ⟨fun i H => ∃ xs x, SqL K H a xs ∧ xs[i]? = some x, fun i H x H' => H' = H ∧ ∀ xs, SqL K H a xs → xs[i]? = some x, fun i H => ∃ xs, SqL K H a xs ∧ xs.length ≤ i⟩
def Itt (K : PySem.W.Frag) (a : Addr) : It :=
  ⟨fun i H => ∃ xs x, SqT K H a xs ∧ xs[i]? = some x, fun i H x H' => H' = H ∧ ∀ xs, SqT K H a xs → xs[i]? = some x, fun i H => ∃ xs, SqT K H a xs ∧ xs.length ≤ i⟩
theorem turn_list {P : Program} {w : World} {K : PySem.W.Frag} {tg : Expr} (a it : Addr) : Turn P w K tg (Itl K a) [it] it (fun i h => h.IsListIter it a i) where
  mem := by simp
  obj := fun i h st b hb => by
    have e : b = it := by simpa using hb
    subst e
    obtain ⟨o, e, c, d⟩ := st
    exact ⟨o, e, fun v z => by rw [d] at z; cases z⟩
  keep := fun i h h' st k => st.at fun o e => k it (by simp) o e
  item := by
    intro X hP hw hK hc i pins s σ H E I hf st hg
    subst hP hw hK
    obtain ⟨xs, x, hq, hx⟩ := hg
    obtain ⟨its, rv, p, hz⟩ := I.list hq
    obtain ⟨u, hu, ru⟩ := rv.get hx
    obtain ⟨f0, f1, f2, f3, f4, f5⟩ := hf it (by simp)
    refine wpAny_pyNext_list_item st p.isList (x := u) (by simpa using hu) fun h' st' sb => ?_
    have I1 : Inv X pins σ H { s with heap := h' } := I.turned (t' := s.toks) (fun b o hb e => (sb.2 b hb).trans e) f0 f1 f3 f4 f5
    obtain ⟨o, e, c, d⟩ := id st'
    exact ⟨u, rfl, go_of (s := { s with heap := h' }) e c d (by decide) ⟨x, H, I1, ru, ⟨rfl, fun ys hy => by rw [I.list_inj hy hq]; exact hx⟩, st', fun b hb => (hf b hb).1⟩⟩
  done := by
    intro X hP hw hK hc i pins s σ H E I hf st hg
    subst hP hw hK
    obtain ⟨xs, hq, hx⟩ := hg
    obtain ⟨its, rv, p, hz⟩ := I.list hq
    obtain ⟨f0, f1, f2, f3, f4, f5⟩ := hf it (by simp)
    have hl := rv.length
    exact wpAny_pyNext_list_end (I.ok.hd hc) st p.isList (by simp; omega) fun h' eb => ⟨rfl, I.turned (t' := s.toks) (fun b o hb e => eb b o hb e) f0 f1 f3 f4 f5⟩
  self := fun _ _ _ _ _ st h => wpAny_pyIter_listiter st h
theorem turn_tuple {P : Program} {w : World} {K : PySem.W.Frag} {tg : Expr} (a it : Addr) : Turn P w K tg (Itt K a) [it] it (fun i h => h.IsTupleIter it a i) where
  mem := by simp
  obj := fun i h st b hb => by
    have e : b = it := by simpa using hb
    subst e
    obtain ⟨o, e, c, d⟩ := st
    exact ⟨o, e, fun v z => by rw [d] at z; cases z⟩
  keep := fun i h h' st k => st.at fun o e => k it (by simp) o e
  item := by
    intro X hP hw hK hc i pins s σ H E I hf st hg
    subst hP hw hK
    obtain ⟨xs, x, hq, hx⟩ := hg
    obtain ⟨its, rv, p, hz⟩ := I.tuple hq
    obtain ⟨u, hu, ru⟩ := rv.get hx
    obtain ⟨f0, f1, f2, f3, f4, f5⟩ := hf it (by simp)
    refine wpAny_pyNext_tuple_item st (show s.heap.IsTuple a its.toArray from p) (x := u) (by simpa using hu) fun h' st' sb => ?_
    have I1 : Inv X pins σ H { s with heap := h' } := I.turned (t' := s.toks) (fun b o hb e => (sb.2 b hb).trans e) f0 f1 f3 f4 f5
    obtain ⟨o, e, c, d⟩ := id st'
    exact ⟨u, rfl, go_of (s := { s with heap := h' }) e c d (by decide) ⟨x, H, I1, ru, ⟨rfl, fun ys hy => by rw [I.tuple_inj hy hq]; exact hx⟩, st', fun b hb => (hf b hb).1⟩⟩
  done := by
    intro X hP hw hK hc i pins s σ H E I hf st hg
    subst hP hw hK
    obtain ⟨xs, hq, hx⟩ := hg
    obtain ⟨its, rv, p, hz⟩ := I.tuple hq
    obtain ⟨f0, f1, f2, f3, f4, f5⟩ := hf it (by simp)
    have hl := rv.length
    exact wpAny_pyNext_tuple_end (I.ok.hd hc) st (show s.heap.IsTuple a its.toArray from p) (by simp; omega) fun h' eb => ⟨rfl, I.turned (t' := s.toks) (fun b o hb e => eb b o hb e) f0 f1 f3 f4 f5⟩
  self := fun _ _ _ _ _ st h => wpAny_pyIter_tupleiter st h
end L2
namespace L2
open PySem PySem.Spec PyProof.Rows
section
variable {X : Cx} {tg : Expr}
def iList (K : PySem.W.Frag) (tl : TE) : TI := fun σ H R => tl σ H fun x H1 => ∃ a, x = .ref a ∧ (∃ xs, SqL K H1 a xs) ∧ R (Itl K a) H1
def iTup (K : PySem.W.Frag) (tl : TE) : TI := fun σ H R => tl σ H fun x H1 => ∃ a, x = .ref a ∧ (∃ xs, SqT K H1 a xs) ∧ R (Itt K a) H1
theorem pi_list {l : Expr} {tl : TE} (hl : PE X l tl) : PI X tg l (iList X.K tl) := by
  intro pins s σ H R I h
  refine thn (hl pins s σ H _ I h) fun v s1 ⟨x, H1, I1, r1, q1⟩ => ?_
  obtain ⟨a, e, ⟨xs, hq⟩, q⟩ := q1
  subst e
  cases r1
  obtain ⟨its, rv, p, hz⟩ := I1.list hq
  refine wpAny_pyIter_list p.isList ?_
  refine ⟨s1.heap.objs.size, [s1.heap.objs.size], _, _, H1, rfl, I1.kept (t' := s1.toks) fun b o e => Heap.get?_push_of_some _ e, turn_list a _, ⟨_, Heap.get?_push_size _ rfl, rfl, rfl⟩, fun b hb => ?_, q⟩
  have e : b = s1.heap.objs.size := by simpa using hb
  subst e
  exact I1.fpOk (Nat.le_refl _) (I1.hok.fresh (Nat.le_refl _))
theorem pi_tup {l : Expr} {tl : TE} (hl : PE X l tl) : PI X tg l (iTup X.K tl) := by
  intro pins s σ H R I h
  refine thn (hl pins s σ H _ I h) fun v s1 ⟨x, H1, I1, r1, q1⟩ => ?_
  obtain ⟨a, e, ⟨xs, hq⟩, q⟩ := q1
  subst e
  cases r1
  obtain ⟨its, rv, p, hz⟩ := I1.tuple hq
  refine wpAny_pyIter_tuple (show s1.heap.IsTuple a its.toArray from p) ?_
  refine ⟨s1.heap.objs.size, [s1.heap.objs.size], _, _, H1, rfl, I1.kept (t' := s1.toks) fun b o e => Heap.get?_push_of_some _ e, turn_tuple a _, ⟨_, Heap.get?_push_size _ rfl, rfl, rfl⟩, fun b hb => ?_, q⟩
  have e : b = s1.heap.objs.size := by simpa using hb
  subst e
  exact I1.fpOk (Nat.le_refl _) (I1.hok.fresh (Nat.le_refl _))
def tFor (wi : TI) (g : TG) (tb : TS) : TS := fun D σ H => wi σ H fun J H1 => ∃ W : Nat → Nat → St → Hp → Prop, (∃ m, W 0 m σ H1) ∧ ∀ i m σ H, W i m σ H →
  (J.stop i H ∧ D.nx σ H) ∨ (J.go i H ∧ ∃ N : St → Hp → Prop, (∀ σ' H', N σ' H' → ∃ m', m' < m ∧ W (i + 1) m' σ' H') ∧ ∀ x H', J.yld i H x H' → g x σ H' fun σ2 H2 => tb { D with nx := N, ct := N, bk := D.nx } σ2 H2)
def pinsAt (fp : List Addr) (h : Heap) : List (Addr × Obj) := fp.filterMap fun b => (h.get? b).map fun o => (b, o)
theorem mem_pinsAt {fp : List Addr} {h : Heap} {b : Addr} {o : Obj} (hb : b ∈ fp) (e : h.get? b = some o) : (b, o) ∈ pinsAt fp h := List.mem_filterMap.mpr ⟨b, hb, by rw [e]; rfl⟩
theorem of_pinsAt {fp : List Addr} {h : Heap} {p : Addr × Obj} (hp : p ∈ pinsAt fp h) : p.1 ∈ fp ∧ h.get? p.1 = some p.2 := by
  obtain ⟨b, hb, e⟩ := List.mem_filterMap.mp hp
  cases q : h.get? b with
  | none => rw [q] at e; cases e
  | some o =>
    rw [q] at e
    have e' : (b, o) = p := Option.some.inj e
    subst e'
    exact ⟨hb, q⟩
theorem Inv.pinned {pins : List (Addr × Obj)} {σ : St} {H : Hp} {s : Shared} {fp : List Addr} (I : Inv X pins σ H s) (hf : ∀ b ∈ fp, FpOk X pins H b) (ho : ∀ b ∈ fp, ∃ o, s.heap.get? b = some o ∧ ∀ v, o.data ≠ .cell v) : Inv X (pins ++ pinsAt fp s.heap) σ H s :=
  I.pins_of fun p hp => (List.mem_append.mp hp).elim (fun z => I.pin p (List.mem_append_right _ z)) fun z => by
    obtain ⟨hb, e⟩ := of_pinsAt z
    obtain ⟨f0, f1, f2, _⟩ := hf p.1 hb
    obtain ⟨o, e', d⟩ := ho p.1 hb
    rw [e] at e'; cases e'
    exact ⟨e, f0, f1, f2, d⟩
theorem Inv.unpinned {pins pl : List (Addr × Obj)} {σ : St} {H : Hp} {s : Shared} (I : Inv X (pins ++ pl) σ H s) : Inv X pins σ H s := I.pins_of fun p hp => I.pin p (List.mem_append_right _ (List.mem_append_left _ hp))
theorem ps_for {iter : Expr} {body : List Stmt} {wi : TI} {g : TG} {tb : TS} {pos : Pos} (hp : PassesOwn (model X.prog X.w) X.A X.env X.xe) (hc : X.calm = true) (hi : PI X tg iter wi) (hg : PG X tg g) (hb : PSs X body tb)
    (hs : ∀ x, foldedSetIterable iter X.env x = pure x := by intro _; rfl) : PS X (.For tg iter body [] pos) (tFor wi g tb) := by
  intro pins s σ H D I h
  refine wpAny_For (thn (hi pins s σ H _ I h) fun v s1 h1 => thn h1 fun itv s2 h2 => ?_) hs
  obtain ⟨it, fp, tn, J, H2, e, I2, T, st2, f2, W, ⟨m0, w0⟩, turn⟩ := h2
  subst e
  have stat : ∀ {H' : Hp}, (∀ b ∈ fp, H' b = none) → ∀ b ∈ fp, FpOk X pins H' b := fun hn b hb => ⟨hn b hb, (f2 b hb).2⟩
  refine codeAny_forLoop_any (fun n s' => ∃ i σ' H', Inv X pins σ' H' s' ∧ tn i s'.heap ∧ (∀ b ∈ fp, H' b = none) ∧ W i n σ' H') ?_ m0 ⟨0, σ, H2, I2, st2, fun b hb => (f2 b hb).1, w0⟩
  rintro n s3 ⟨i, σ3, H3, I3, st3, fr3, w3⟩
  rcases turn i n σ3 H3 w3 with ⟨stop, qn⟩ | ⟨go, N, hN, step⟩
  · refine wpAny_passesOwn hp (thn (T.done X rfl rfl rfl hc i pins s3 σ3 H3 X.xe I3 (stat fr3) st3 stop) fun r s4 ⟨hr, I4⟩ => ?_)
    subst hr
    exact wpAny_execs_nil ⟨σ3, H3, I4, qn⟩
  · refine wpAny_passesOwn hp (thn (T.item X rfl rfl rfl hc i pins s3 σ3 H3 X.xe I3 (stat fr3) st3 go) fun r s4 ⟨u, hr, h4⟩ => ?_)
    subst hr
    refine wpAny_passesOwn hp (thn h4 fun _ s5 ⟨x, H5, I5, r5, y5, st5, fr5⟩ => ?_)
    have I5' := I5.pinned (stat fr5) (T.obj _ _ st5)
    refine wpAny_passesOwn hp (thn (hg _ s5 σ3 H5 x u _ I5' r5 (step x H5 y5)) fun _ s6 ⟨σ6, H6, I6, q6⟩ => ?_)
    refine wpAny_passesOwn hp (thn (hb _ s6 σ6 H6 _ I6 q6) fun f s7 q7 => ?_)
    have again : ∀ {σ7 : St} {H7 : Hp}, Inv X (pins ++ pinsAt fp s5.heap) σ7 H7 s7 → N σ7 H7 → ∃ m, m < n ∧ ∃ i σ' H', Inv X pins σ' H' s7 ∧ tn i s7.heap ∧ (∀ b ∈ fp, H' b = none) ∧ W i m σ' H' := fun {σ7 H7} I7 n7 => by
      obtain ⟨m', hm, w7⟩ := hN σ7 H7 n7
      refine ⟨m', hm, i + 1, σ7, H7, I7.unpinned, T.keep _ _ _ st5 fun b hb o e => (I7.pin (b, o) (List.mem_append_right _ (List.mem_append_right _ (mem_pinsAt hb e)))).1, fun b hb => ?_, w7⟩
      obtain ⟨o, e, d⟩ := T.obj _ _ st5 b hb
      exact (I7.pin (b, o) (List.mem_append_right _ (List.mem_append_right _ (mem_pinsAt hb e)))).2.1
    cases f with
    | next => obtain ⟨σ7, H7, I7, n7⟩ := q7; exact again I7 n7
    | cont => obtain ⟨σ7, H7, I7, n7⟩ := q7; exact again I7 n7
    | brk => obtain ⟨σ7, H7, I7, q7⟩ := q7; exact ⟨σ7, H7, I7.unpinned, q7⟩
    | ret v => obtain ⟨x7, σ7, H7, I7, r7, q7⟩ := q7; exact ⟨x7, σ7, H7, I7.unpinned, r7, q7⟩
end
end L2
namespace L2
open PySem PySem.Spec PyProof.Rows
abbrev R2 := V → V → Hp → VK → Prop
def OpR (X : Cx) (f : Value → Value → Sem Value) (r : R2) : Prop :=
  ∀ (pins : List (Addr × Obj)) (s : Shared) (σ : St) (H : Hp) (x y : V) (v u : Value) (Q : VK), Inv X pins σ H s → RelV x v → RelV y u → r x y H Q →
    wpAny (model X.prog X.w) X.A (f v u) (EP X pins σ Q) X.xe s
def UnR (X : Cx) (f : Value → Sem Value) (r : V → Hp → VK → Prop) : Prop :=
  ∀ (pins : List (Addr × Obj)) (s : Shared) (σ : St) (H : Hp) (x : V) (v : Value) (Q : VK), Inv X pins σ H s → RelV x v → r x H Q →
    wpAny (model X.prog X.w) X.A (f v) (EP X pins σ Q) X.xe s
def CallR (X : Cx) (f : Value) (r : List V → Hp → VK → Prop) : Prop :=
  ∀ (pins : List (Addr × Obj)) (s : Shared) (σ : St) (H : Hp) (xs : List V) (us : List Value) (Q : VK), Inv X pins σ H s → Vals xs us → r xs H Q →
    wpAny (model X.prog X.w) X.A (call f us) (EP X pins σ Q) X.xe s
def tOp (r : R2) (ta tb : TE) : TE := fun σ H Q => ta σ H fun x H1 => tb σ H1 fun y H2 => r x y H2 Q
def tUn (r : V → Hp → VK → Prop) (ta : TE) : TE := fun σ H Q => ta σ H fun x H1 => r x H1 Q
def rI (C : Int → Int → Prop) (g : Int → Int → V) : R2 := fun x y H Q => ∃ i j, x = .int i ∧ y = .int j ∧ C i j ∧ Q (g i j) H
def rI0 (g : Int → Int → V) : R2 := fun x y H Q => ∃ i j, x = .int i ∧ y = .int j ∧ Q (g i j) H
def rU (g : Int → V) : V → Hp → VK → Prop := fun x H Q => ∃ i, x = .int i ∧ Q (g i) H
section
variable {X : Cx} {a b c : Expr} {ta tb tc : TE} {pos : Pos}
theorem binT (ha : PE X a ta) (hb : PE X b tb) {pins : List (Addr × Obj)} {s : Shared} {σ : St} {H : Hp} {R : V → V → Hp → Prop} (I : Inv X pins σ H s)
    (h : ta σ H fun x H1 => tb σ H1 fun y H2 => R x y H2) {Q : Value → Shared → Prop} {f : Value → Value → Sem Value}
    (hf : ∀ v u s2 x y H2, Inv X pins σ H2 s2 → RelV x v → RelV y u → R x y H2 → wpAny (model X.prog X.w) X.A (f v u) Q X.xe s2) :
    wpAny (model X.prog X.w) X.A (eval a X.env) (fun v s₁ => wpAny (model X.prog X.w) X.A (eval b X.env) (fun u s₂ => wpAny (model X.prog X.w) X.A (f v u) Q X.xe s₂) X.xe s₁) X.xe s := by
  refine thn (ha pins s σ H _ I h) fun v s1 ⟨x, H1, I1, r1, q1⟩ => ?_
  refine thn (hb pins s1 σ H1 _ I1 q1) fun u s2 ⟨y, H2, I2, r2, q2⟩ => ?_
  exact hf v u s2 x y H2 I2 r1 r2 q2
theorem pe_op {op : Operator} {r : R2} (ho : OpR X (binaryOp op) r) (ha : PE X a ta) (hb : PE X b tb) : PE X (.BinOp a op b pos) (tOp r ta tb) := by
  intro pins s σ H Q I h
  exact wpAny_BinOp (binT ha hb I h fun v u s2 x y H2 I2 rx ry q => ho pins s2 σ H2 x y v u Q I2 rx ry q)
theorem pe_un {op : UnaryOp} {r : V → Hp → VK → Prop} (ho : UnR X (unaryOp op) r) (ha : PE X a ta) : PE X (.UnaryOp op a pos) (tUn r ta) := by
  intro pins s σ H Q I h
  exact UnaryOp_ (thn (ha pins s σ H _ I h) fun v s1 ⟨x, H1, I1, r1, q1⟩ => ho pins s1 σ H1 x v Q I1 r1 q1)
theorem opI {f : Value → Value → Sem Value} {C : Int → Int → Prop} {g : Int → Int → Int}
    (rule : ∀ (i j : Int) (t u : Tok) (s : Shared) (Q : Value → Shared → Prop) (E : Value → Shared → Prop), C i j → Q (.int (g i j) s.toks) { s with toks := s.toks + 1 } → wpAny (model X.prog X.w) X.A (f (.int i t) (.int j u)) Q E s) :
    OpR X f (rI C fun i j => .int (g i j)) := by
  intro pins s σ H x y v u Q I rx ry h
  obtain ⟨i, j, rfl, rfl, hc, q⟩ := h
  obtain ⟨t, rfl⟩ := rx
  obtain ⟨t', rfl⟩ := ry
  exact rule i j t t' s _ _ hc ⟨.int (g i j), H, I.tok _, ⟨_, rfl⟩, q⟩
theorem opI0 {f : Value → Value → Sem Value} {g : Int → Int → Int}
    (rule : ∀ (i j : Int) (t u : Tok) (s : Shared) (Q : Value → Shared → Prop) (E : Value → Shared → Prop), Q (.int (g i j) s.toks) { s with toks := s.toks + 1 } → wpAny (model X.prog X.w) X.A (f (.int i t) (.int j u)) Q E s) :
    OpR X f (rI0 fun i j => .int (g i j)) := by
  intro pins s σ H x y v u Q I rx ry h
  obtain ⟨i, j, rfl, rfl, q⟩ := h
  obtain ⟨t, rfl⟩ := rx
  obtain ⟨t', rfl⟩ := ry
  exact rule i j t t' s _ _ ⟨.int (g i j), H, I.tok _, ⟨_, rfl⟩, q⟩
theorem opB0 {f : Value → Value → Sem Value} {g : Int → Int → Bool}
    (rule : ∀ (i j : Int) (t u : Tok) (s : Shared) (Q : Value → Shared → Prop) (E : Value → Shared → Prop), Q (.bool (g i j)) s → wpAny (model X.prog X.w) X.A (f (.int i t) (.int j u)) Q E s) :
    OpR X f (rI0 fun i j => .bl (g i j)) := by
  intro pins s σ H x y v u Q I rx ry h
  obtain ⟨i, j, rfl, rfl, q⟩ := h
  obtain ⟨t, rfl⟩ := rx
  obtain ⟨t', rfl⟩ := ry
  exact rule i j t t' s _ _ ⟨.bl (g i j), H, I, rfl, q⟩
def CPow (i j : Int) : Prop := 0 ≤ j ∧ j ≤ 1000000 ∧ i.natAbs < 2 ^ 64
def CMul (i j : Int) : Prop := (-(2 ^ 64) < i ∧ i < 2 ^ 64) ∨ (-(2 ^ 64) < j ∧ j < 2 ^ 64)
theorem CMul.ok {i j : Int} (h : CMul i j) : IntMulOk i j := by
  rcases h with ⟨h1, h2⟩ | ⟨h1, h2⟩
  · exact .of_left (intBits_le_64 h1 h2)
  · exact .of_right (intBits_le_64 h1 h2)
theorem op_add : OpR X (binaryOp .Add) (rI0 fun i j => .int (i + j)) := opI0 fun _ _ _ _ _ _ _ q => add_int q
theorem op_sub : OpR X (binaryOp .Sub) (rI0 fun i j => .int (i - j)) := opI0 fun _ _ _ _ _ _ _ q => sub_int q
theorem op_mod : OpR X (binaryOp .Mod) (rI (fun _ j => 0 < j) fun i j => .int (i % j)) := opI fun i j _ _ _ _ _ hc q => by
  have h1 : (0 : Int) < j := hc
  exact mod_int' (by omega) (by rw [Int.fmod_eq_emod_of_nonneg i (by omega)]; exact q)
theorem op_pow : OpR X (binaryOp .Pow) (rI CPow fun i j => .int (i ^ j.toNat)) := opI fun _ _ _ _ _ _ _ hc q => pow_int_small hc.1 hc.2.1 hc.2.2 q
theorem op_shl : OpR X (binaryOp .LShift) (rI CPow fun i j => .int (i * 2 ^ j.toNat)) := opI fun _ _ _ _ _ _ _ hc q => lshift_int_small hc.1 hc.2.1 hc.2.2 q
theorem unI {f : Value → Sem Value} {g : Int → Int}
    (rule : ∀ (i : Int) (t : Tok) (s : Shared) (Q : Value → Shared → Prop) (E : Value → Shared → Prop), Q (.int (g i) s.toks) { s with toks := s.toks + 1 } → wpAny (model X.prog X.w) X.A (f (.int i t)) Q E s) :
    UnR X f (rU fun i => .int (g i)) := by
  intro pins s σ H x v Q I rx h
  obtain ⟨i, rfl, q⟩ := h
  obtain ⟨t, rfl⟩ := rx
  exact rule i t s _ _ ⟨.int (g i), H, I.tok _, ⟨_, rfl⟩, q⟩
theorem un_neg : UnR X (unaryOp .USub) (rU fun i => .int (-i)) := unI fun _ _ _ _ _ q => neg_int q
end
def scal : V → V → Bool
  | .non, .non => true | .non, .int _ => true | .int _, .non => true | .non, .bl _ => true | .bl _, .non => true | .non, .str _ => true | .str _, .non => true
  | .int _, .int _ => true | .bl _, .bl _ => true | .str _, .str _ => true | .byt _, .byt _ => true
  | .int _, .str _ => true | .str _, .int _ => true | .bl _, .str _ => true | .str _, .bl _ => true
  | _, _ => false
section
variable {X : Cx} {a b c : Expr} {ta tb tc : TE} {pos : Pos}
theorem fin_bl {pins : List (Addr × Obj)} {σ : St} {H : Hp} {s : Shared} {Q : VK} {k k' : Bool} (I : Inv X pins σ H s) (q : Q (.bl k) H) (e : k = k') : EP X pins σ Q (.bool k') s := by
  subst e
  exact ⟨.bl k, H, I, rfl, q⟩
theorem op_lt : OpR X (compareOp .Lt) (rI0 fun i j => .bl (decide (i < j))) := opB0 fun _ _ _ _ _ _ _ q => lt_int q
theorem op_gt : OpR X (compareOp .Gt) (rI0 fun i j => .bl (decide (j < i))) := opB0 fun _ _ _ _ _ _ _ q => gt_int q
theorem op_ge : OpR X (compareOp .GtE) (rI0 fun i j => .bl (decide (j ≤ i))) := opB0 fun _ _ _ _ _ _ _ q => ge_int q
theorem op_in_str : OpR X (compareOp .In) (fun x y H Q => ∃ i j, x = .str i ∧ y = .str j ∧ Q (.bl (!(Builtin.Str.occurrences j i 0 j.length 1).isEmpty)) H) := by
  intro pins s σ H x y v u Q I rx ry h
  obtain ⟨i, j, rfl, rfl, q⟩ := h
  obtain ⟨t, rfl⟩ := rx
  obtain ⟨t', rfl⟩ := ry
  exact in_str (fin_bl I q rfl)
theorem op_isN : OpR X (compareOp .Is) (fun x y H Q => y = .non ∧ Q (.bl (decide (x = .non))) H) := by
  intro pins s σ H x y v u Q I rx ry h
  obtain ⟨rfl, q⟩ := h
  cases ry
  refine is_none_gen (fin_bl I q ?_)
  cases x <;> first
    | (cases rx; rfl)
    | (obtain ⟨t, rfl⟩ := rx; rfl)
theorem OpR.or {f : Value → Value → Sem Value} {r r' : R2} (h : OpR X f r) (h' : OpR X f r') : OpR X f (fun x y H Q => r x y H Q ∨ r' x y H Q) := by
  intro pins s σ H x y v u Q I rx ry q
  rcases q with q | q
  · exact h pins s σ H x y v u Q I rx ry q
  · exact h' pins s σ H x y v u Q I rx ry q
theorem nomark (b : Expr) {op : CmpOp} (h : op ≠ .In := by decide) (h2 : op ≠ .NotIn := by decide) : behindInMarks op b = false := by
  have e1 : (op == CmpOp.In) = false := by cases op <;> first | rfl | exact absurd rfl h
  have e2 : (op == CmpOp.NotIn) = false := by cases op <;> first | rfl | exact absurd rfl h2
  cases b <;> simp [behindInMarks, e1, e2]
theorem pe_cmpR {op : CmpOp} {r : R2} (ho : OpR X (compareOp op) r) (ha : PE X a ta) (hb : PE X b tb) (hm : behindInMarks op b = false) : PE X (.Compare a [op] [b] pos) (tOp r ta tb) := by
  intro pins s σ H Q I h
  exact wpAny_Compare1 (binT ha hb I h fun v u s2 x y H2 I2 rx ry q => ho pins s2 σ H2 x y v u Q I2 rx ry q) hm
def tTest (t : TE) : TT := fun σ H Q => t σ H fun x H' => ∃ k, x = .bl k ∧ Q k H'
theorem pt_cmpR {op : CmpOp} {r : R2} (ho : OpR X (compareOp op) r) (ha : PE X a ta) (hb : PE X b tb) (hm : behindInMarks op b = false) : PT X (.Compare a [op] [b] pos) (tTest (tOp r ta tb)) := by
  intro pins s σ H Q I h
  refine wpAny_isTrue_Compare1 (thn (ha pins s σ H _ I h) fun v s1 ⟨x, H1, I1, r1, q1⟩ => thn (hb pins s1 σ H1 _ I1 q1) fun u s2 ⟨y, H2, I2, r2, q2⟩ =>
    thn (ho pins s2 σ H2 x y v u _ I2 r1 r2 q2) fun c s3 ⟨z, H3, I3, r3, k, e, q3⟩ => ?_) hm
  subst e
  cases r3
  exact wpAny_truthy_bool ⟨H3, I3, q3⟩
theorem line63 : (sizeLine : Nat) < 2 ^ 63 := by rw [sizeLine_eq]; decide
theorem op_add_str : OpR X (binaryOp .Add) (fun x y H Q => ∃ i j, x = .str i ∧ y = .str j ∧ i.length + j.length ≤ sizeLine ∧ Q (.str (i ++ j)) H) := by
  intro pins s σ H x y v u Q I rx ry h
  obtain ⟨i, j, rfl, rfl, hz, q⟩ := h
  obtain ⟨t, rfl⟩ := rx
  obtain ⟨t', rfl⟩ := ry
  exact add_str (fun t' tk => ⟨.str (i ++ j), H, I.tok _, ⟨_, rfl⟩, q⟩) hz
theorem vals1 {x : V} {us : List Value} (r : Vals [x] us) : ∃ u, us = [u] ∧ RelV x u := by
  cases r with
  | cons r1 r2 => cases r2; exact ⟨_, rfl, r1⟩
theorem vals2 {x y : V} {us : List Value} (r : Vals [x, y] us) : ∃ u w', us = [u, w'] ∧ RelV x u ∧ RelV y w' := by
  cases r with
  | cons r1 r2 =>
    cases r2 with
    | cons r3 r4 => cases r4; exact ⟨_, _, rfl, r1, r3⟩
theorem call_min2 (hc : X.calm = true) : CallR X (.builtin "min") (fun xs H Q => ∃ i j, xs = [.int i, .int j] ∧ Q (.int (if j < i then j else i)) H) := by
  intro pins s σ H xs us Q I r h
  obtain ⟨i, j, rfl, q⟩ := h
  obtain ⟨u, w', rfl, ⟨t, rfl⟩, ⟨t', rfl⟩⟩ := vals2 r
  refine min_two_ints (I.ok.hd hc) fun h' tk k => ⟨_, H, I.kept k, ?_, q⟩
  by_cases hj : j < i
  · rw [if_pos hj, if_pos hj]; exact ⟨_, rfl⟩
  · rw [if_neg hj, if_neg hj]; exact ⟨_, rfl⟩
theorem call_int1 : CallR X (.type "int") (fun xs H Q => (∃ i, xs = [.int i] ∧ Q (.int i) H) ∨ ∃ k, xs = [.bl k] ∧ Q (.int (if k then 1 else 0)) H) := by
  intro pins s σ H xs us Q I r h
  rcases h with ⟨i, rfl, q⟩ | ⟨k, rfl, q⟩
  · obtain ⟨u, rfl, t, rfl⟩ := vals1 r
    exact call_int_int ⟨.int i, H, I, ⟨_, rfl⟩, q⟩
  · obtain ⟨u, rfl, r1⟩ := vals1 r
    cases r1
    exact call_int_bool ⟨.int (if k then 1 else 0), H, I.tok _, ⟨_, rfl⟩, q⟩
theorem call_str_int : CallR X (.type "str") (fun xs H Q => ∃ i, xs = [.int i] ∧ i.natAbs.log2 < 1920 ∧ Q (.str (toString i)) H) := by
  intro pins s σ H xs us Q I r h
  obtain ⟨i, rfl, hz, q⟩ := h
  obtain ⟨u, rfl, t, rfl⟩ := vals1 r
  exact PySem.P.str_of_int hz ⟨.str _, H, I.tok _, ⟨_, rfl⟩, q⟩
def LenV (K : PySem.W.Frag) (x : V) (H : Hp) (n : Nat) : Prop :=
  match x with
  | .str y => y.length ≤ sizeLine ∧ n = y.length
  | .byt y => y.size ≤ sizeLine ∧ n = y.size
  | .ref p => (∃ xs, SqL K H p xs ∧ n = xs.length) ∨ ∃ xs, SqT K H p xs ∧ n = xs.length
  | _ => False
theorem call_len : CallR X (.builtin "len") (fun xs H Q => ∃ x n, xs = [x] ∧ LenV X.K x H n ∧ Q (.int n) H) := by
  intro pins s σ H xs us Q I r h
  obtain ⟨x, n, rfl, e, q⟩ := h
  obtain ⟨u, rfl, rx⟩ := vals1 r
  have hl := line63
  have hs : sizeLine = 16777216 := sizeLine_eq
  cases x with
  | str y =>
    obtain ⟨t, rfl⟩ := rx
    obtain ⟨hy, e'⟩ : y.length ≤ sizeLine ∧ n = y.length := e
    subst e'
    exact len_str (by omega) ⟨.int _, H, I.tok _, ⟨_, rfl⟩, q⟩
  | byt y =>
    obtain ⟨t, rfl⟩ := rx
    obtain ⟨hy, e'⟩ : y.size ≤ sizeLine ∧ n = y.size := e
    subst e'
    exact PySem.W.len_bytes (by omega) ⟨.int _, H, I.tok _, ⟨_, rfl⟩, q⟩
  | ref p =>
    cases rx
    have e' : (∃ xs, SqL X.K H p xs ∧ n = xs.length) ∨ ∃ xs, SqT X.K H p xs ∧ n = xs.length := e
    rcases e' with ⟨xs, hx, e'⟩ | ⟨xs, hx, e'⟩
    · subst e'
      obtain ⟨its, r', pl, hz⟩ := I.list hx
      have hlen := r'.length
      exact Calls.call_len_list pl.isList (by simp only [List.size_toArray]; omega) ⟨.int xs.length, H, I.tok _, ⟨_, by simp only [List.size_toArray]; rw [hlen]⟩, q⟩
    · subst e'
      obtain ⟨its, r', pl, hz⟩ := I.tuple hx
      have hlen := r'.length
      exact len_tuple pl (by simp only [List.size_toArray]; omega) ⟨.int xs.length, H, I.tok _, ⟨_, by simp only [List.size_toArray]; rw [hlen]⟩, q⟩
  | _ => exact (show False from e).elim
end
end L2
namespace L2
open PySem PySem.Spec PyProof.Rows
structure ObjM (h : Heap) (x dx C : Addr) (mA : Str → Option Value) : Prop where
  obj : h.get? x = some (PySem.W.instObj C dx)
  ns : h.Ns1 dx mA
  ne : dx ≠ x
theorem lookIn_ns {h : Heap} {dx : Addr} {mA : Str → Option Value} (n : h.Ns1 dx mA) : ∃ od, h.get? dx = some od ∧ ∀ name, PySem.W.lookIn name od = some (mA name) := by
  obtain ⟨o, es, ep, ho, hd, hk, _, hm⟩ := n
  refine ⟨o, ho, fun name => ?_⟩
  have e := hm name
  unfold nsFind findBy at e
  rw [← Array.find?_toList] at e
  unfold PySem.W.lookIn
  rw [hd]
  dsimp only
  split
  · rename_i y q
    rw [q] at e
    exact congrArg some e
  · rename_i q
    rw [q] at e
    have a : es.toList.any (·.refKey) = false := by
      rw [List.any_eq_false]
      intro y hy
      obtain ⟨z, t, hkey⟩ := hk y (Array.mem_toList_iff.mp hy)
      simp [DictEntry.refKey, hkey]
    have a' : ¬ es.toList.any (·.refKey) = true := by rw [a]; exact Bool.false_ne_true
    rw [if_neg a']
    exact congrArg some e
theorem ObjM.look {h : Heap} {x dx C : Addr} {mA : Str → Option Value} (I : ObjM h x dx C mA) : ∃ od, PySem.W.InstAt h x (PySem.W.instObj C dx) C (some od) ∧ ∀ name, PySem.W.lookIn name od = some (mA name) :=
  let ⟨od, ho, hl⟩ := lookIn_ns I.ns
  ⟨od, ⟨I.obj, rfl, rfl, ho⟩, hl⟩
section
variable {prog : Program} {w : World} {A : Around} {E : Value → Shared → Prop} {s : Shared} {K : PySem.W.Frag} {x dx C f : Addr} {mA : Str → Option Value} {name : Str} {v : Value}
end
section
variable {P : Program} {w : World} {H H' : Hp} {h h' : Heap} {a C dx : Addr} {fs fs' : List (Str × V)}
theorem ins_get (hok : HOk P w H h) (e : H a = some (.ins C dx fs)) : ∃ mA, ObjM h a dx C mA ∧ (∀ f, RelO (fs.lookup f) (mA f)) ∧ PySem.Within mA (fs.map (·.1)) ∧ fs.length ≤ 1000 ∧ H dx = some (.own a) := by
  obtain ⟨d, z, ne, ob, mA, n, r, q⟩ := (show ObjOk P w H h a (.ins C dx fs) from hok a _ e)
  exact ⟨mA, ⟨ob, n, ne⟩, r, q, z, d⟩
end
structure Cls (K : PySem.W.Frag) (C : Addr) : Prop where
  pg : PySem.W.plainGet K C Str.empty = true
  hd : PySem.W.hasDictIn K C = true
  po : PySem.W.plainOver K C = true
  sa : PySem.W.findIn K (.ref C) "__setattr__" = some (some (.builtin "object.__setattr__"))
theorem Cls.get {K : PySem.W.Frag} {C : Addr} (c : Cls K C) (f : Str) : PySem.W.plainGet K C f = true := c.pg
structure Con (K : PySem.W.Frag) (C : Addr) (f : Str) (v : V) (u : Value) : Prop where
  at_ : PySem.W.findIn K (.ref C) f = some (some u)
  rel : RelV v u
  get : PySem.W.specialIn K u "__get__" = some none
  cp : PySem.W.copiedNames.contains f = false
structure Meth (K : PySem.W.Frag) (C : Addr) (m : Str) (f : Addr) : Prop where
  at_ : PySem.W.findIn K (.ref C) m = some (some (.ref f))
  fn : PySem.W.isFn K (.ref f) = true
  kp : PySem.W.keepIn K (.ref f) = true
section
variable {X : Cx} {pins : List (Addr × Obj)} {σ : St} {H : Hp} {s : Shared} {a C dx : Addr} {fs : List (Str × V)} {f : Str} {v : V} {A : Around} {E : Value → Shared → Prop}
end
section
variable {X : Cx} {o e value : Expr} {f : Str} {pos pos' tpos : Pos} {ta tv : TE}
end
section
variable {X : Cx} {pins : List (Addr × Obj)} {σ : St} {H : Hp} {s : Shared} {A : Around} {E : Value → Shared → Prop} {Q : Value → Shared → Prop} {c : Value} {b : Bool}
inductive TyOf (K : PySem.W.Frag) (H : Hp) : V → Value → Prop where
  | non : TyOf K H .non (.type "NoneType")
  | bl (x : Bool) : TyOf K H (.bl x) (.type "bool")
  | int (i : Int) : TyOf K H (.int i) (.type "int")
  | str (x : Str) : TyOf K H (.str x) (.type "str")
  | flt (x : UInt64) : TyOf K H (.flt x) (.type "float")
  | lst {a : Addr} {xs : List V} (e : H a = some (.lst xs)) : TyOf K H (.ref a) (.type "list")
  | frz {a : Addr} {o : Obj} {xs : List V} (e : H a = some (.frz o (.lst xs))) : TyOf K H (.ref a) (.type "list")
  | tup {a : Addr} {xs : List V} (e : H a = some (.tup xs)) : TyOf K H (.ref a) (.type "tuple")
  | dK {a : Addr} {kvs : List (Key × V)} (e : H a = some (.dK kvs)) : TyOf K H (.ref a) (.type "dict")
  | dT {a : Addr} {kvs : List (List Key × V)} (e : H a = some (.dT kvs)) : TyOf K H (.ref a) (.type "dict")
  | ins {a C dx : Addr} {fs : List (Str × V)} (e : H a = some (.ins C dx fs)) (cl : Cls K C) (ha : PySem.W.findIn K (.ref C) "__class__" = some (some (.builtin "object.__class__")))
      (hn : PySem.W.specialIn K (.builtin "object.__class__") "__get__" = some (some (.builtin "getset_descriptor.__get__"))) (htk : PySem.W.takesIn K (.builtin "object.__class__") = some true)
      (hm : PySem.W.mroIn K C (.type "object") = some true) : TyOf K H (.ref a) (.ref C)
theorem isinst_ok {x : V} {u t : Value} (I : Inv X pins σ H s) (rx : RelV x u) (ty : TyOf X.K H x t) (e : PySem.W.kitOne X.K t c = some b) (h : ∀ tk, Q (.bool b) { s with toks := tk }) :
    wpAny (model X.prog X.w) A (call (.builtin "isinstance") [u, c]) Q E s := by
  cases ty with
  | non => cases (show u = Value.none from rx); exact PySem.W.kia_one PySem.W.kitx_none I.kIn True.intro e (fun z => nomatch z) h
  | bl y => cases (show u = Value.bool y from rx); exact PySem.W.kia_one PySem.W.kitx_bool I.kIn True.intro e (fun z => nomatch z) h
  | int i => obtain ⟨t, q⟩ := (show ∃ t, u = Value.int i t from rx); cases q; exact PySem.W.kia_one PySem.W.kitx_int I.kIn True.intro e (fun z => nomatch z) h
  | str y => obtain ⟨t, q⟩ := (show ∃ t, u = Value.str y t from rx); cases q; exact PySem.W.kia_one PySem.W.kitx_str I.kIn True.intro e (fun z => nomatch z) h
  | flt y => obtain ⟨t, q⟩ := (show ∃ t, u = Value.float y t from rx); cases q; exact PySem.W.kia_one PySem.W.kitx_float I.kIn True.intro e (fun z => nomatch z) h
  | @lst a xs ea =>
    cases (show u = Value.ref a from rx)
    obtain ⟨_, _, n, _, h1⟩ := (show ObjOk X.prog X.w H s.heap a (.lst xs) from I.hok a _ ea)
    exact PySem.W.kia_one PySem.W.kitx_list I.kIn ⟨_, h1, rfl⟩ e (fun z => nomatch z) h
  | @frz a ob xs ea =>
    cases (show u = Value.ref a from rx)
    obtain ⟨_, _, _, n, _, h1⟩ := (show ObjOk X.prog X.w H s.heap a (.frz ob (.lst xs)) from I.hok a _ ea)
    exact PySem.W.kia_one PySem.W.kitx_list I.kIn ⟨_, h1, rfl⟩ e (fun z => nomatch z) h
  | @tup a xs ea =>
    cases (show u = Value.ref a from rx)
    obtain ⟨_, _, _, p⟩ := (show ObjOk X.prog X.w H s.heap a (.tup xs) from I.hok a _ ea)
    obtain ⟨o, h1, h2, _⟩ := p
    exact PySem.W.kia_one PySem.W.kitx_tuple I.kIn ⟨o, h1, h2⟩ e (fun z => nomatch z) h
  | @dK a kvs ea =>
    cases (show u = Value.ref a from rx)
    obtain ⟨_, _, vs, _, p⟩ := (show ObjOk X.prog X.w H s.heap a (.dK kvs) from I.hok a _ ea)
    obtain ⟨o, es, ep, h1, h2, _⟩ := p
    exact PySem.W.kia_one PySem.W.kitx_dict I.kIn ⟨o, h1, h2.1⟩ e (fun z => nomatch z) h
  | @dT a kvs ea =>
    cases (show u = Value.ref a from rx)
    obtain ⟨_, _, xs, _, o, es, ep, h1, h2, _⟩ := (show ObjOk X.prog X.w H s.heap a (.dT kvs) from I.hok a _ ea)
    exact PySem.W.kia_one PySem.W.kitx_dict I.kIn ⟨o, h1, h2.1⟩ e (fun z => nomatch z) h
  | @ins a C dx fs ea cl ha hn htk hm =>
    cases (show u = Value.ref a from rx)
    obtain ⟨mA, O, _⟩ := ins_get I.hok ea
    obtain ⟨od, J, _⟩ := O.look
    exact PySem.W.kia_one (PySem.W.kitx_own (cl.get _) cl.hd ha hn htk hm) I.kIn J e (fun z => nomatch z) h
end
end L2
namespace L2
open PySem PySem.Spec PyProof.Rows
structure Room (k : Nat) (A : Around) : Prop where
  hd : A.handled = none
  dp : A.depth + 3 * k + 5 < recursionLimit
  un : A.units + 16 * k + 200 < cLine
theorem Room.mono {j k : Nat} {A : Around} (r : Room k A) (h : j ≤ k) : Room j A := ⟨r.hd, by have := r.dp; omega, by have := r.un; omega⟩
theorem Room.deeper {k : Nat} {A : Around} (r : Room (k + 1) A) (env : Env) : Room k (A.deeper env) :=
  ⟨r.hd, by have := r.dp; show A.depth + 1 + 3 * k + 5 < _; omega, by have := r.un; show A.units + 3 + 16 * k + 200 < _; omega⟩
theorem Room.in1 {k : Nat} {A : Around} (r : Room (k + 1) A) : Room k A.in1 :=
  ⟨r.hd, by have := r.dp; show A.depth + 3 * k + 5 < _; omega, by have := r.un; show A.units + 1 + 16 * k + 200 < _; omega⟩
theorem Room.depth {k : Nat} {A : Around} (r : Room k A) : A.depth < recursionLimit := by have := r.dp; omega
theorem Room.units {k : Nat} {A : Around} (r : Room k A) : A.units + 64 < cLine := by have := r.un; omega
def tNil : TA := fun _ H Q => Q [] H
def tCons (ta : TE) (tr : TA) : TA := fun σ H Q => ta σ H fun x H1 => tr σ H1 fun xs H2 => Q (x :: xs) H2
section
variable {X : Cx} {e : Expr} {es : List Expr} {te : TE} {t : TA} {pos : Pos}
theorem pa_nil : PA X [] tNil := fun _ _ _ _ H Q I h => Calls.spliced_nil ⟨[], H, I, .nil, h⟩
theorem pa_cons (ha : PE X e te) (hr : PA X es t) (hs : starEach (e :: es) X.env = (false, eval e X.env) :: starEach es X.env := by rfl) : PA X (e :: es) (tCons te t) := by
  intro pos pins s σ H Q I h
  rw [hs]
  show wpAny _ _ (spliced ((false, eval e X.env) :: backTo pos (starEach es X.env))) _ _ s
  refine Calls.spliced_cons (thn (ha pins s σ H _ I h) fun u s1 ⟨x, H1, I1, r1, q1⟩ => ?_)
  exact thn (hr pos pins s1 σ H1 _ I1 q1) fun us s2 ⟨xs, H2, I2, r2, q2⟩ => ⟨x :: xs, H2, I2, .cons r1 r2, q2⟩
def tTup (t : TA) : TE := fun σ H Q => t σ H fun xs H1 => xs.length ≤ sizeLine ∧ ∀ p, H1 p = none → Q (.ref p) (upd H1 p (.tup xs))
def tLst (t : TA) : TE := fun σ H Q => t σ H fun xs H1 => xs.length ≤ sizeLine ∧ ∀ p, H1 p = none → Q (.ref p) (upd H1 p (.lst xs))
theorem pe_tup {x1} (h : PA X es t) : PE X (.Tuple es x1 pos) (tTup t) := by
  intro pins s σ H Q I hq
  refine wpAny_Tuple_spliced (thn (h pos pins s σ H _ I hq) fun us s1 ⟨xs, H1, I1, r, z, q⟩ => ⟨by rw [← r.length]; exact z, ?_⟩)
  have hf : H1 s1.heap.objs.size = none := I1.hok.fresh (Nat.le_refl _)
  refine ⟨.ref s1.heap.objs.size, upd H1 s1.heap.objs.size (.tup xs), I1.laid (t' := s1.toks) (fun b u e => Heap.get?_push_of_some _ e) (Nat.le_refl _) ?_, rfl, q _ hf⟩
  exact ⟨z, us, r, ⟨_, Heap.get?_push_size _ rfl, rfl, _, rfl⟩⟩
theorem pe_lst (h : PA X es t) : PE X (.List es pos) (tLst t) := by
  intro pins s σ H Q I hq
  refine wpAny_List_spliced (thn (h pos pins s σ H _ I hq) fun us s1 ⟨xs, H1, I1, r, z, q⟩ => ⟨by rw [← r.length]; exact z, ?_⟩)
  have hf : H1 s1.heap.objs.size = none := I1.hok.fresh (Nat.le_refl _)
  refine ⟨.ref s1.heap.objs.size, upd H1 s1.heap.objs.size (.lst xs), I1.laid (t' := s1.toks) (fun b u e => Heap.get?_push_of_some _ e) (Nat.le_refl _) ?_, rfl, q _ hf⟩
  exact ⟨z, us, 0, r, Heap.get?_push_size _ rfl⟩
end
abbrev Sp := List V → Hp → VK → XK → Prop
abbrev CXT := List Env → Hp → Shared → XK → Value → Shared → Prop
structure Env0 (P : Program) (w : World) (K : PySem.W.Frag) (mg : Str → Option Value) (base : Heap) (A : Around) (outer : List Env) (s : Shared) (H : Hp) : Prop where
  frames : A.frames = some outer
  mod : Mod K mg base
  bs : ∀ b o, base.get? b = some o → s.heap.get? b = some o ∧ H b = none
  bsz : base.objs.size ≤ s.heap.objs.size
  funs : s.heap.FunFrames base outer
  frf : ∀ b ∈ frs outer, H b = none
  hok : HOk P w H s.heap
  bare : AllBare s.gens
def CE (outer : List Env) (P : Program) (w : World) (H : Hp) (s : Shared) (Q : VK) (u : Value) (s' : Shared) : Prop :=
  ∃ v H', s'.os = s.os ∧ AllBare s'.gens ∧ Un (frs outer) [] H H' s.heap s'.heap ∧ HOk P w H' s'.heap ∧ RelV v u ∧ Q v H'
def CR (CX : CXT) (outer : List Env) (P : Program) (w : World) (H : Hp) (s : Shared) (Q : VK) (E : XK) (r : Result) (s' : Shared) : Prop :=
  match r with
  | .ok (.ret u) => CE outer P w H s Q u s'
  | .ok _ => False
  | .error e => CX outer H s E e s'
structure FnOk (P : Program) (w : World) (K : PySem.W.Frag) (mg : Str → Option Value) (base : Heap) (CX : CXT) (k : Nat) (f : Addr) (fd : FuncData) (ps : List Str) (sp : Sp) : Prop where
  len : ∀ vs H Q E, sp vs H Q E → vs.length = ps.length
  run : ∀ (A : Around) (outer : List Env) (s : Shared) (H : Hp) (args : Args) (us : List Value) (vs : List V) (Q : VK) (E : XK), Room k A → Env0 P w K mg base A outer s H → BindsTo s fd args (ps.zip us) → Vals vs us → sp vs H Q E →
    codeAny (model P w) A (.call (.ref f) args) (CR CX outer P w H s Q E) s
theorem FnOk.mono {P : Program} {w : World} {K : PySem.W.Frag} {mg : Str → Option Value} {base : Heap} {CX : CXT} {j k : Nat} {f : Addr} {fd : FuncData} {ps : List Str} {sp : Sp} (F : FnOk P w K mg base CX j f fd ps sp) (h : j ≤ k) :
    FnOk P w K mg base CX k f fd ps sp := ⟨F.len, fun A outer s H args us vs Q E hr => F.run A outer s H args us vs Q E (hr.mono h)⟩
theorem FnOk.imp {P : Program} {w : World} {K : PySem.W.Frag} {mg : Str → Option Value} {base : Heap} {CX : CXT} {k : Nat} {f : Addr} {fd : FuncData} {ps : List Str} {sp sp' : Sp} (F : FnOk P w K mg base CX k f fd ps sp)
    (h : ∀ vs H Q E, sp' vs H Q E → sp vs H Q E) : FnOk P w K mg base CX k f fd ps sp' :=
  ⟨fun vs H Q E q => F.len vs H Q E (h _ _ _ _ q), fun A outer s H args us vs Q E hr he hb hv hs => F.run A outer s H args us vs Q E hr he hb hv (h _ _ _ _ hs)⟩
theorem Env0.in1 {P : Program} {w : World} {K : PySem.W.Frag} {mg : Str → Option Value} {base : Heap} {A : Around} {outer : List Env} {s : Shared} {H : Hp} (e : Env0 P w K mg base A outer s H) :
    Env0 P w K mg base A.in1 outer s H := ⟨e.frames, e.mod, e.bs, e.bsz, e.funs, e.frf, e.hok, e.bare⟩
section
variable {X : Cx} {pins : List (Addr × Obj)} {σ : St} {H : Hp} {s s' : Shared}
theorem Inv.env0 (I : Inv X pins σ H s) : Env0 X.prog X.w X.K X.mg X.base X.A X.stack s H :=
  ⟨I.ok.frames, I.ok.mod, I.bs, Nat.le_trans I.ok.bsz I.sz, I.stack, I.stkFree, I.hok, I.bare⟩
theorem Inv.after {Q : VK} {u : Value} (I : Inv X pins σ H s) (h : CE X.stack X.prog X.w H s Q u s') : EP X pins σ Q u s' := by
  obtain ⟨v, H', os, bare, un, hok, r, q⟩ := h
  obtain ⟨hh, g, d, t, os'⟩ := s'
  obtain rfl : os' = s.os := os
  exact ⟨v, H', I.call (h' := hh) (g' := g) (d' := d) (t' := t) (ch := []) un hok bare (fun b z => absurd z (by simp)), r, q⟩
end
def tCall (sp : Sp) (dvs : List V) (E : XK) (t : TA) : TE := fun σ H Q => t σ H fun vs H1 => sp (vs ++ dvs) H1 Q E
def Binds (K : PySem.W.Frag) (fd : FuncData) (ps : List Str) (ds : List Value) : Prop :=
  ∀ (s : Shared) (us : List Value), K.In s.heap → (us ++ ds).length = ps.length → BindsTo s fd ⟨us, []⟩ (ps.zip (us ++ ds))
theorem Binds.all {K : PySem.W.Frag} {fd : FuncData} {ps : List Str} (h : ∀ us : List Value, us.length = ps.length → bindArgs fd ⟨us, []⟩ = pure (ps.zip us)) : Binds K fd ps [] := fun s us _ hl => by
  rw [List.append_nil] at hl ⊢
  exact .of_eq (h us hl)
def Passes (CX : CXT) (X : Cx) (E : XK) : Prop := ∀ (pins : List (Addr × Obj)) (σ : St) (H : Hp) (s : Shared) (e : Value) (s' : Shared), Inv X pins σ H s → CX X.stack H s E e s' → X.xe e s'
section
variable {X : Cx} {CX : CXT} {k : Nat} {f C : Addr} {fd : FuncData} {ps : List Str} {sp : Sp} {dvs : List V} {ds : List Value} {E : XK} {x m : Str} {p pos apos : Pos} {e o : Expr} {es : List Expr} {ta : TE} {t : TA}
theorem run_fn {pins : List (Addr × Obj)} {σ : St} {H : Hp} {s : Shared} {Q : VK} {us : List Value} {vs : List V} (F : FnOk X.prog X.w X.K X.mg X.base CX k f fd ps sp) (hr : Room k X.A) (hb : Binds X.K fd ps ds) (hd : Vals dvs ds) (hx : Passes CX X E)
    (I : Inv X pins σ H s) (r : Vals vs us) (h : sp (vs ++ dvs) H Q E) : wpAny (model X.prog X.w) X.A (call (.ref f) us) (EP X pins σ Q) X.xe s := by
  have r2 : Vals (vs ++ dvs) (us ++ ds) := r.append hd
  have hl : (us ++ ds).length = ps.length := by rw [← r2.length]; exact F.len _ _ _ _ h
  refine wpAny_call (codeAny_mono (F.run X.A X.stack s H ⟨us, []⟩ (us ++ ds) (vs ++ dvs) Q E hr I.env0 (hb s us I.kIn hl) r2 h) fun r s' hq => ?_)
  cases r with
  | error e => exact hx pins σ H s e s' I hq
  | ok fl =>
    cases fl with
    | ret u => exact I.after hq
    | next => exact False.elim hq
    | brk => exact False.elim hq
    | cont => exact False.elim hq
theorem pe_call (F : FnOk X.prog X.w X.K X.mg X.base CX k f fd ps sp) (hr : Room k X.A) (hg : Gl X x) (hm : X.mg x = some (.ref f)) (hk : PySem.W.keepIn X.K (.ref f) = true) (hb : Binds X.K fd ps ds) (hd : Vals dvs ds) (hx : Passes CX X E)
    (ha : PA X (e :: es) t) (hdb : (x == ("__debug__" : Str)) = false := by decide) (he : starEach (e :: es) X.env = (false, eval e X.env) :: starEach es X.env := by rfl) (hpl : (backTo pos (starEach es X.env)).any (·.1) = false := by rfl) :
    PE X (.Call (.Name x p) (e :: es) [] pos) (tCall sp dvs E t) := by
  intro pins s σ H Q I h
  refine wpAny_Call_Name_kw (ld_glob I hg hm ?_ hdb)
  refine PySem.W.callWith_K (h₀ := X.base) I.ok.mod.kin hk (thn (ha pos pins s σ H _ I h) fun us s1 ⟨vs, H1, I1, r, q⟩ => ⟨I1.kIn, ?_⟩) he hpl
  exact run_fn F hr hb hd hx I1 r q
structure Mk (K : PySem.W.Frag) (C f : Addr) : Prop where
  makes : PySem.W.makesIn K C = true
  init : PySem.W.findIn K (.ref C) "__init__" = some (some (.ref f))
  fn : PySem.W.isFn K (.ref f) = true
  kp : PySem.W.keepIn K (.ref C) = true
end
section
variable {X : Cx} {CX : CXT} {k : Nat} {f C : Addr} {fd : FuncData} {ps ks : List Str} {sp : Sp} {E : XK} {x m : Str} {p pos apos kpos : Pos} {e o : Expr} {es : List Expr} {kws : List Keyword} {te ta : TE} {t tk : TA} {nm : Option Str}
structure KBinds (K : PySem.W.Frag) (fd : FuncData) (ps ks : List Str) (g : List Value → List Value → List Value) (gV : List V → List V → List V) : Prop where
  to : ∀ (s : Shared) (us ws : List Value), K.In s.heap → (g us ws).length = ps.length → BindsTo s fd ⟨us, ks.zip ws⟩ (ps.zip (g us ws))
  rel : ∀ {vs : List V} {us : List Value} {zs : List V} {ws : List Value}, Vals vs us → Vals zs ws → Vals (gV vs zs) (g us ws)
variable {g : List Value → List Value → List Value} {gV : List V → List V → List V}
end
structure FnScope (N P : List Str) (sc : Scope) : Prop where
  kind : sc.kind = .function
  co : sc.isCoroutine = false
  gen : sc.isGenerator = false
  nd : N.Nodup
  pre : N.take P.length = P
  par : ∀ x ∈ P, sc.names.lookup x = some .local ∨ sc.names.lookup x = some .cell
  nofree : ∀ y ∈ sc.names, y.2 ≠ .free
theorem bindL_out {kindOf : Str → Option NameKind} {x : Str} : ∀ {binds : List (Str × Value)} {m : Str → Option Value}, (∀ v, (x, v) ∉ binds) → bindL kindOf binds m x = m x
  | [], _, _ => rfl
  | (n, v) :: r, m, h => by
    unfold bindL
    rw [bindL_out fun w hw => h w (List.mem_cons_of_mem _ hw)]
    split
    · have : x ≠ n := by rintro rfl; exact h v List.mem_cons_self
      simp [this]
    · rfl
theorem bindC_out {kindOf : Str → Option NameKind} {x : Str} : ∀ {binds : List (Str × Value)} {m : Str → Option Value}, (∀ v, (x, v) ∉ binds) → bindC kindOf binds m x = m x
  | [], _, _ => rfl
  | (n, v) :: r, m, h => by
    unfold bindC
    rw [bindC_out fun w hw => h w (List.mem_cons_of_mem _ hw)]
    split
    · rfl
    · have : x ≠ n := by rintro rfl; exact h v List.mem_cons_self
      simp [this]
theorem bindL_get {kindOf : Str → Option NameKind} {x : Str} {v : Value} : ∀ {P : List Str} {vs : List Value} {i : Nat} {m : Str → Option Value}, P.Nodup → P[i]? = some x → vs[i]? = some v → kindOf x = some .local →
    bindL kindOf (P.zip vs) m x = some v
  | [], _, _, _, _, h, _, _ => by simp at h
  | _ :: _, [], _, _, _, _, h, _ => by simp at h
  | p :: P, w :: vs, 0, m, nd, h1, h2, hk => by
    simp at h1 h2; subst h1; subst h2
    show bindL kindOf ((p, w) :: P.zip vs) m p = _
    unfold bindL
    rw [bindL_out fun v hv => (List.nodup_cons.mp nd).1 (List.of_mem_zip hv).1, if_pos hk]
    simp
  | p :: P, w :: vs, i + 1, m, nd, h1, h2, hk => by
    show bindL kindOf ((p, w) :: P.zip vs) m x = _
    unfold bindL
    exact bindL_get (i := i) (List.nodup_cons.mp nd).2 (by simpa using h1) (by simpa using h2) hk
theorem bindC_get {kindOf : Str → Option NameKind} {x : Str} {v : Value} : ∀ {P : List Str} {vs : List Value} {i : Nat} {m : Str → Option Value}, P.Nodup → P[i]? = some x → vs[i]? = some v → kindOf x ≠ some .local →
    bindC kindOf (P.zip vs) m x = some v
  | [], _, _, _, _, h, _, _ => by simp at h
  | _ :: _, [], _, _, _, _, h, _ => by simp at h
  | p :: P, w :: vs, 0, m, nd, h1, h2, hk => by
    simp at h1 h2; subst h1; subst h2
    show bindC kindOf ((p, w) :: P.zip vs) m p = _
    unfold bindC
    rw [bindC_out fun v hv => (List.nodup_cons.mp nd).1 (List.of_mem_zip hv).1, if_neg hk]
    simp
  | p :: P, w :: vs, i + 1, m, nd, h1, h2, hk => by
    show bindC kindOf ((p, w) :: P.zip vs) m x = _
    unfold bindC
    exact bindC_get (i := i) (List.nodup_cons.mp nd).2 (by simpa using h1) (by simpa using h2) hk
def start (N : List Str) (vs : List V) : St := vs.map some ++ List.replicate (N.length - vs.length) none
def cxOf (CX : CXT) (P : Program) (w : World) (K : PySem.W.Frag) (mg : Str → Option Value) (base : Heap) (N : List Str) (qual : Str) (scope : Scope) (f : Addr) (cd : Value) (A : Around) (outer : List Env) (s : Shared) (H : Hp) (E : XK) : Cx where
  prog := P
  w := w
  K := K
  mg := mg
  base := base
  A := A.deeper (envOfC qual scope s.heap.objs.size f cd)
  N := N
  s₀ := s
  H₀ := H
  env := envOfC qual scope s.heap.objs.size f cd
  outer := outer
  stack := envOfC qual scope s.heap.objs.size f cd :: outer
  ex := []
  calm := true
  fn := fun _ => true
  pn := []
  xe := fun e s' => wpAny (model P w) (A.deeper (envOfC qual scope s.heap.objs.size f cd)) (leaving (envOfC qual scope s.heap.objs.size f cd) e) (fun _ s'' => CX outer H s E e s'') (fun e' s'' => CX outer H s E e' s'') s'
theorem cell_has {sc : Scope} {n : Nat} {x : Str} (h : sc.names.lookup x = some .cell) : ∃ c, (cellsFrom n sc.names []).lookup x = some c := by
  have q := PySem.W.cellsFrom_some sc.names n [] (.inl h)
  exact Option.isSome_iff_exists.mp q
theorem inv_start {CX : CXT} {P : Program} {w : World} {K : PySem.W.Frag} {mg : Str → Option Value} {base : Heap} {N ps : List Str} {qual : Str} {scope : Scope} {f : Addr} {cd : Value} {A : Around} {outer : List Env} {s s1 : Shared} {H : Hp} {E : XK} {us : List Value} {vs : List V}
    (S : FnScope N ps scope) (hd : A.handled = none) (e0 : Env0 P w K mg base A outer s H) (hl : vs.length = ps.length) (r : Vals vs us)
    (x : InCallC s s.heap.objs.size (bindL (envOfC qual scope s.heap.objs.size f cd).kindOf (ps.zip us) fun _ => none) (cellsFrom (s.heap.objs.size + 1) scope.names []) (bindC (envOfC qual scope s.heap.objs.size f cd).kindOf (ps.zip us) fun _ => none) s1) :
    Inv (cxOf CX P w K mg base N qual scope f cd A outer s H E) [] (start N vs) H s1 := by
  have hpl : ps.length ≤ N.length := by have := congrArg List.length S.pre; rw [List.length_take] at this; omega
  obtain ⟨h1, tk, rfl, hk⟩ := x.done
  have noA : ∀ b : Addr, b ∉ (cxOf CX P w K mg base N qual scope f cd A outer s H E).ex := fun b z => absurd (show b ∈ ([] : List Addr) from z) (by simp)
  refine ⟨⟨e0.mod, S.kind, rfl, rfl, Nat.le_refl _, fun y z c h1 h2 => ?_, fun y hy => ?_, fun y c _ h => ?_, fun _ => hd, Around.frames_deeper e0.frames, .inr ⟨rfl, rfl⟩, fun b z => absurd z (noA b), e0.bs, e0.bsz, fun b _ _ => noA b, fun b z => absurd z (noA b), e0.funs, e0.frf⟩,
    rfl, e0.bare, Un.kept hk, ⟨_, x.toInCall.ns, fun i y v h1 h2 h3 => ?_⟩, fun y c h => ⟨_, x.cell y c h⟩, e0.hok.fresh (Nat.le_refl _), fun y c h => ?_, fun p hp => absurd (show p ∈ ([] : List (Addr × Obj)) from hp) (by simp), e0.hok.kept hk, ?_⟩
  · exact name_of_addr x.apart (PySem.mem_of_lookup h1) (PySem.mem_of_lookup h2)
  · have hy : scope.names.lookup y = some .cell ∨ scope.names.lookup y = some .free := hy
    rcases hy with hy | hy
    · exact cell_has hy
    · exact absurd rfl (S.nofree _ (PySem.mem_of_lookup hy))
  · exact Nat.le_of_lt (x.above y c (PySem.mem_of_lookup h))
  · have hi : i < vs.length := by
      unfold start at h2
      by_cases hi : i < vs.length
      · exact hi
      · rw [List.getElem?_append_right (by simpa using hi)] at h2
        rw [List.getElem?_replicate] at h2
        split at h2 <;> cases h2
    have ha : vs[i]? = some v := by
      unfold start at h2
      rw [List.getElem?_append_left (by simpa using hi), List.getElem?_map] at h2
      cases e : vs[i]? with
      | none => rw [e] at h2; cases h2
      | some a => rw [e] at h2; cases h2; rfl
    obtain ⟨u, hu, rv⟩ := r.get ha
    have hp : ps[i]? = some y := by
      rw [← S.pre, List.getElem?_take_of_lt (by omega)]; exact h1
    have ndP : ps.Nodup := by rw [← S.pre]; exact S.nd.sublist (List.take_sublist _ _)
    refine ⟨u, rv, ?_⟩
    rcases S.par y (List.mem_of_getElem? hp) with k | k
    · exact .inl ⟨k, bindL_get ndP hp hu k⟩
    · obtain ⟨c, e⟩ := cell_has (n := s.heap.objs.size + 1) k
      refine .inr ⟨.inl k, c, e, ?_⟩
      have q := x.cell y c e
      rw [bindC_get ndP hp hu (by show scope.names.lookup y ≠ _; rw [k]; decide)] at q
      exact q
  · exact e0.hok.fresh (Nat.le_of_lt (x.above y c (PySem.mem_of_lookup h)))
  · unfold start
    show _ = N.length
    rw [List.length_append, List.length_map, List.length_replicate]
    omega
theorem fn_of {CX : CXT} {P : Program} {w : World} {K : PySem.W.Frag} {mg : Str → Option Value} {base : Heap} {k : Nat} {f : Addr} {name qual : Str} {params : Arguments} {body : List Stmt} {scope : Scope} {dV kV doc pm cdv ct oc : Value} {an od : Option Addr}
    {osl : Array (Option Value)} {N ps : List Str} {sp : Sp} (lk : K.lookup f = some ⟨oc, od, .func (PySem.W.fnOf name qual params body scope dV kV doc pm an cdv ct), osl⟩) (hcd : PySem.W.codeIn K cdv qual = true) (S : FnScope N ps scope)
    (len : ∀ vs H Q E, sp vs H Q E → vs.length = ps.length)
    (hbody : ∀ (A : Around) (outer : List Env) (s : Shared) (H : Hp) (vs : List V) (Q : VK) (E : XK), Room k (A.deeper (envOfC qual scope s.heap.objs.size f cdv)) → sp vs H Q E →
      ∃ t, PSs (cxOf CX P w K mg base N qual scope f cdv A outer s H E) body t ∧ t { nx := fun _ H' => Q .non H', rt := Q } (start N vs) H) :
    FnOk P w K mg base CX (k + 1) f (PySem.W.fnOf name qual params body scope dV kV doc pm an cdv ct) ps sp := by
  refine ⟨len, fun A outer s H args us vs Q E hr e0 hb r hsp => ?_⟩
  have hl := len _ _ _ _ hsp
  have KX : K.In s.heap := e0.mod.kin.keeps fun b o e => (e0.bs b o e).1
  have lim : s.heap.NoLimit := e0.mod.nolimit.keeps fun b o e => (e0.bs b o e).1
  have hkind : ∀ y ∈ ps.zip us, scope.names.lookup y.1 = some .local ∨ (scope.names.lookup y.1 = some .cell ∧ ((cellsFrom (s.heap.objs.size + 1) scope.names []).lookup y.1).isSome = true) := fun ⟨n, v⟩ hy => by
    rcases S.par n (List.of_mem_zip hy).1 with q | q
    · exact .inl q
    · exact .inr ⟨q, PySem.W.cellsFrom_some _ _ _ (.inl q)⟩
  refine codeAny_call_function hr.depth (KX _ _ lk) rfl S.co S.gen rfl (PySem.W.codeRec_of KX hcd) (hb _ _ _ _ ?_)
  refine wpAny_newFunctionEnv_cells S.kind hkind fun env he s1 x => ?_
  subst he
  refine ⟨lim.keeps x.toInCall.keep, codeAny_func ?_⟩
  obtain ⟨t, ht, hq⟩ := hbody A outer s H vs Q E (hr.deeper _) hsp
  have I : Inv (cxOf CX P w K mg base N qual scope f cdv A outer s H E) [] (start N vs) H s1 := inv_start S hr.hd e0 hl r x
  refine wpAny_mono (ht [] s1 (start N vs) H _ I hq) (fun fl s' hs => ?_) fun e s' hs => hs
  have fin : ∀ {σ' : St} {H' : Hp} {v : V} {u : Value}, Inv (cxOf CX P w K mg base N qual scope f cdv A outer s H E) [] σ' H' s' → RelV v u → Q v H' → CE outer P w H s Q u s' :=
    fun {σ' H' v u} J rv q => ⟨v, H', J.os, J.bare, J.base, J.hok, rv, q⟩
  cases fl with
  | ret u =>
    obtain ⟨v, σ', H', J, rv, q⟩ := hs
    exact fin J rv q
  | next =>
    obtain ⟨σ', H', J, q⟩ := hs
    exact fin (v := V.non) (u := Value.none) J rfl q
  | brk =>
    obtain ⟨_, _, _, q⟩ := hs
    exact False.elim q
  | cont =>
    obtain ⟨_, _, _, q⟩ := hs
    exact False.elim q
end L2
namespace L2
open PySem PySem.Spec PyProof.Rows
section
variable {X : Cx} {x : Str} {p pos : Pos} {e : Expr} {es : List Expr} {t : TA} {id T : String} {r : List V → Hp → VK → Prop}
def tCB (r : List V → Hp → VK → Prop) (t : TA) : TE := fun σ H Q => t σ H fun vs H1 => r vs H1 Q
theorem pe_callB (hc : CallR X (.builtin id) r) (hg : Gl X x) (hm : X.mg x = none) (hv : bootBuiltins x = some (.builtin id)) (ha : PA X (e :: es) t) (hn : x ≠ "__name__" := by decide) (hdb : (x == ("__debug__" : Str)) = false := by decide)
    (he : starEach (e :: es) X.env = (false, eval e X.env) :: starEach es X.env := by rfl) (hpl : (backTo pos (starEach es X.env)).any (·.1) = false := by rfl) : PE X (.Call (.Name x p) (e :: es) [] pos) (tCB r t) := by
  intro pins s σ H Q I h
  refine wpAny_Call_Name_kw (ld_blt I hg hm hv ?_ hn hdb)
  exact PyProof.Rows.callWith_builtin1 (thn (ha pos pins s σ H _ I h) fun us s1 ⟨vs, H1, I1, r1, q1⟩ => hc pins s1 σ H1 vs us Q I1 r1 q1) he hpl
theorem pe_callTy (hc : CallR X (.type T) r) (hg : Gl X x) (hm : X.mg x = none) (hv : bootBuiltins x = some (.type T)) (ha : PA X (e :: es) t) (hn : x ≠ "__name__" := by decide) (hdb : (x == ("__debug__" : Str)) = false := by decide)
    (he : starEach (e :: es) X.env = (false, eval e X.env) :: starEach es X.env := by rfl) (hpl : (backTo pos (starEach es X.env)).any (·.1) = false := by rfl) : PE X (.Call (.Name x p) (e :: es) [] pos) (tCB r t) := by
  intro pins s σ H Q I h
  refine wpAny_Call_Name_kw (ld_blt I hg hm hv ?_ hn hdb)
  exact PyProof.Rows.callWith_type1 (thn (ha pos pins s σ H _ I h) fun us s1 ⟨vs, H1, I1, r1, q1⟩ => hc pins s1 σ H1 vs us Q I1 r1 q1) he hpl
end
end L2
namespace HT
open PySem PyProof.Rows
section
open PySem.SeqAt
open PySem.AutoSeq1 (wpAny_loadPart')
open PySem.MeetsSeq PySem.MeetsSeq2 PySem.MeetsSeq3
end
section
variable {prog : Program} {w : World} {A : Around} {E : Value → Shared → Prop} {s : Shared}
def sIx (n d : Nat) : Option Int → Nat
  | none => d
  | some v => if v < 0 then (v + (n : Int)).toNat else min v.toNat n
theorem sIx_none (n d : Nat) : sIx n d none = d := rfl
theorem sIx_nat (n d k : Nat) : sIx n d (some (k : Int)) = min k n := by
  show (if (k : Int) < 0 then ((k : Int) + (n : Int)).toNat else min (k : Int).toNat n) = min k n
  rw [if_neg (by omega), Int.toNat_natCast]
theorem sIx_le (n d : Nat) (hd : d ≤ n) (o : Option Int) : sIx n d o ≤ n := by
  cases o with
  | none => exact hd
  | some v =>
    show (if v < 0 then (v + (n : Int)).toNat else min v.toNat n) ≤ n
    by_cases hv : v < 0
    · rw [if_pos hv]; omega
    · rw [if_neg hv]; exact Nat.min_le_right _ _
theorem clip_eq (v : Int) (n d : Nat) : (if v < 0 then max (v + (n : Int)) 0 else min v (n : Int)) = ((sIx n d (some v) : Nat) : Int) := by
  show (if v < 0 then max (v + (n : Int)) 0 else min v (n : Int)) = (((if v < 0 then (v + (n : Int)).toNat else min v.toNat n) : Nat) : Int)
  by_cases hv : v < 0
  · simp only [if_pos hv]; omega
  · simp only [if_neg hv]; omega
theorem adjust_gen (lo hi : Option Int) (n : Nat) : Builtin.Slice.sliceAdjust lo hi 1 (n : Int) = (((sIx n 0 lo : Nat) : Int), ((sIx n n hi : Nat) : Int)) := by
  have h1 : ¬ ((1 : Int) < 0) := by omega
  unfold Builtin.Slice.sliceAdjust
  simp only [h1, if_false]
  refine Prod.ext ?_ ?_
  · cases lo with
    | none => rfl
    | some v => exact clip_eq v n 0
  · cases hi with
    | none => rfl
    | some v => exact clip_eq v n n
theorem places_gen (i j : Nat) : Builtin.Slice.slicePlaces (i : Int) (j : Int) 1 = j - i := by
  unfold Builtin.Slice.slicePlaces
  have h1 : (1 : Int) > 0 := by omega
  simp only [h1, if_true, Int.ediv_one]
  split <;> omega
theorem slicePart_ {v : Value} {o : Option Int} {Q : Option Int → Shared → Prop} (p : IsPart v o) (h : Q o s) : wpAny (model prog w) A (Builtin.Slice.slicePartIndex v) Q E s := by
  cases p with
  | none => exact slicePart_none h
  | int i t => exact slicePart_int h
theorem sliceApplied_gen {sl : Addr} {vl vu : Value} {lo hi : Option Int} {n : Nat} {Q : Int × Int × Nat → Shared → Prop} (hs : s.heap.IsSliceOf sl vl vu .none) (pl : IsPart vl lo) (pu : IsPart vu hi)
    (h : Q (((sIx n 0 lo : Nat) : Int), 1, sIx n n hi - sIx n 0 lo) s) : wpAny (model prog w) A (Builtin.Slice.sliceApplied (.ref sl) (pure (n : Int))) Q E s := by
  obtain ⟨os, hos, hcs, hds⟩ := id hs
  unfold Builtin.Slice.sliceApplied Builtin.Slice.sliceFields
  refine wpAny_bind (wpAny_bind (wpAny_field hos hds (x := vl) rfl (wpAny_bind (wpAny_field hos hds (x := vu) rfl (wpAny_bind (wpAny_field hos hds (x := .none) rfl (wpAny_pure ?_)))))))
  refine wpAny_bind (slicePart_none ?_)
  show wpAny _ _ (if ((1 : Int) == 0) = true then _ else _) _ _ s
  rw [if_neg (by decide)]
  refine wpAny_bind (slicePart_ pl (wpAny_bind (slicePart_ pu (wpAny_bind (wpAny_pure ?_)))))
  show wpAny _ _ (match Builtin.Slice.sliceAdjust lo hi 1 (n : Int) with | (lo, hi) => pure (lo, (1 : Int), Builtin.Slice.slicePlaces lo hi 1)) _ _ s
  rw [adjust_gen lo hi n]
  show wpAny _ _ (pure (((sIx n 0 lo : Nat) : Int), (1 : Int), Builtin.Slice.slicePlaces ((sIx n 0 lo : Nat) : Int) ((sIx n n hi : Nat) : Int) 1)) _ _ s
  rw [places_gen]
  exact wpAny_pure h
theorem pick_gen (xs : Array Value) (i k : Nat) : ((List.range k).filterMap fun (m : Nat) => xs[((i : Int) + (m : Int) * 1).toNat]?).toArray = ((xs.toList.drop i).take k).toArray := by
  have e : (fun (m : Nat) => xs[((i : Int) + (m : Int) * 1).toNat]?) = fun m => xs[i + m]? := by
    funext m
    have : ((i : Int) + (m : Int) * 1).toNat = i + m := by omega
    rw [this]
  rw [e]
  have := pick_run xs i k
  rw [List.filterMap_map] at this
  have e2 : ((fun x => xs[x]?) ∘ fun x => i + x) = fun m => xs[i + m]? := rfl
  rw [e2] at this
  rw [this]
theorem getItem_tuple_cut {t sl : Addr} {items : Array Value} {vl vu : Value} {lo hi : Option Int} {Q : Value → Shared → Prop} (ht : IsTup s.heap t items) (hs : s.heap.IsSliceOf sl vl vu .none) (pl : IsPart vl lo) (pu : IsPart vu hi)
    (hw : ¬ (sIx items.size 0 lo = 0 ∧ sIx items.size items.size hi = items.size))
    (h : Q (.ref s.heap.objs.size) { s with heap := s.heap.push { cls := .type "tuple", data := .seq ((items.toList.drop (sIx items.size 0 lo)).take (sIx items.size items.size hi - sIx items.size 0 lo)).toArray } })
    (hsz : items.size ≤ sizeLine) : wpAny (model prog w) A (getItem (.ref t) (.ref sl)) Q E s := by
  have htake : sizeOk (.seq ((items.toList.drop (sIx items.size 0 lo)).take (sIx items.size items.size hi - sIx items.size 0 lo)).toArray) := by
    show ((items.toList.drop (sIx items.size 0 lo)).take (sIx items.size items.size hi - sIx items.size 0 lo)).toArray.size ≤ sizeLine
    rw [List.size_toArray, List.length_take, List.length_drop, Array.length_toList]
    omega
  have hj : sIx items.size items.size hi ≤ items.size := sIx_le _ _ (Nat.le_refl _) hi
  obtain ⟨os, hos, hcs, hds⟩ := id hs
  have hTs : s.TypeIs (.ref sl) "slice" := ⟨os, hos, hcs⟩
  unfold getItem
  try with_reducible refine wpAny_holding ?_
  first | refine wpAny_bind (wpAny_pure ?_) | skip
  refine wpAny_bind (wpAny_sequenceKey ht.typeIs (by decide) ?_)
  refine wpAny_bind (wpAny_callSpecial?_slot (name := Str.ofString "__getitem__") ht.typeIs PyProof.Rows.slot_tuple_getitem
    (wpAny_call_entry PyProof.Rows.slot_tuple_getitem ht.typeIs entry_tuple_getitem ?_ (args_tuple_getitem _ _)))
  show wpAny _ _ (Builtin.Tuple.tupleItemsOf (.ref t) >>= _) _ _ s
  refine wpAny_bind (tupleItemsOf_ ht ?_)
  refine wpAny_bind (wpAny_typeOf hTs ?_)
  rw [if_pos (by decide)]
  refine wpAny_bind (sliceApplied_gen hs pl pu ?_)
  have hno : ¬ ((((sIx items.size 0 lo : Nat) : Int) == 0 && (1 : Int) == 1 && (sIx items.size items.size hi - sIx items.size 0 lo) == items.size) = true) := by
    intro q
    rw [Bool.and_eq_true, Bool.and_eq_true] at q
    have q1 : ((sIx items.size 0 lo : Nat) : Int) = 0 := eq_of_beq q.1.1
    have q2 : sIx items.size items.size hi - sIx items.size 0 lo = items.size := eq_of_beq q.2
    exact hw ⟨by omega, by omega⟩
  show wpAny _ _ (if (((sIx items.size 0 lo : Nat) : Int) == 0 && (1 : Int) == 1 && (sIx items.size items.size hi - sIx items.size 0 lo) == items.size) = true then _ else _) _ _ s
  rw [if_neg hno, pick_gen]
  first
    | exact wpAny_bind (m := Builtin.Tuple.tupleExact _) (wpAny_newObj_type (wpAny_pure ⟨_, rfl, wpAny_pure h⟩) htake)
    | exact wpAny_bind (m := Builtin.Tuple.tupleExact _) (wpAny_newObj_type (wpAny_bind (wpAny_pure (wpAny_pure ⟨_, rfl, wpAny_pure h⟩))) htake)
    | exact wpAny_bind (wpAny_bind (m := Builtin.Tuple.tupleExact _) (wpAny_newObj_type (wpAny_pure (wpAny_pure ⟨_, rfl, wpAny_pure h⟩)) htake))
    | exact wpAny_bind (wpAny_bind (m := Builtin.Tuple.tupleExact _) (wpAny_newObj_type (wpAny_pure ⟨_, rfl, wpAny_pure h⟩) htake))
end
end HT
namespace L2
open PySem PySem.Spec PyProof.Rows
abbrev TO := St → Hp → (Option Int → Hp → Prop) → Prop
def PO (X : Cx) (e : Option Expr) (t : TO) : Prop :=
  ∀ (pins : List (Addr × Obj)) (s : Shared) (σ : St) (H : Hp) (Q : Option Int → Hp → Prop), Inv X pins σ H s → t σ H Q →
    wpAny (model X.prog X.w) X.A (evalPart e X.env) (fun u s' => ∃ o H', Inv X pins σ H' s' ∧ IsPart u o ∧ Q o H') X.xe s
def tNoPart : TO := fun _ H Q => Q none H
def tPart (t : TE) : TO := fun σ H Q => t σ H fun x H1 => ∃ i, x = .int i ∧ Q (some i) H1
theorem intsAre_of {ns : List Int} : ∀ {us : List Value}, Vals (ns.map V.int) us → IntsAre us ns := by
  induction ns with
  | nil => intro us r; rw [List.map_nil] at r; cases r; exact .nil
  | cons n ns ih =>
    intro us r
    rw [List.map_cons] at r
    cases r with
    | cons r1 r2 =>
      obtain ⟨t, e⟩ := r1
      subst e
      exact .cons n t (ih r2)
section
variable {X : Cx} {e : Expr} {te : TE} {lo hi : Option Expr} {tl th : TO} {pos p2 : Pos}
theorem po_none : PO X none tNoPart := by
  intro pins s σ H Q I h
  rw [evalPart_none]
  exact wpAny_pure ⟨none, H, I, .none, h⟩
theorem po_some (h : PE X e te) : PO X (some e) (tPart te) := by
  intro pins s σ H Q I hw
  rw [evalPart_some]
  refine thn (h pins s σ H _ I hw) fun u s1 ⟨x, H1, I1, r1, q1⟩ => ?_
  obtain ⟨i, rfl, q⟩ := q1
  obtain ⟨t, rfl⟩ := r1
  exact ⟨some i, H1, I1, .int i t, q⟩
def SlR (X : Cx) (r : V → Option Int → Option Int → Hp → VK → Prop) : Prop :=
  ∀ (pins : List (Addr × Obj)) (s : Shared) (σ : St) (H : Hp) (x : V) (v vl vu : Value) (lo hi : Option Int) (sl : Addr) (Q : VK), Inv X pins σ H s → RelV x v → s.heap.IsSliceOf sl vl vu .none → IsPart vl lo → IsPart vu hi → r x lo hi H Q →
    ∃ T id, typeLookup (.type T) "__getitem__" = pure (some (.builtin id)) ∧ s.TypeIs v T ∧ wpAny (model X.prog X.w) X.A (getItem v (.ref sl)) (EP X pins σ Q) X.xe s
theorem SlR.or {r r' : V → Option Int → Option Int → Hp → VK → Prop} (h : SlR X r) (h' : SlR X r') : SlR X (fun x lo hi H Q => r x lo hi H Q ∨ r' x lo hi H Q) := by
  intro pins s σ H x v vl vu lo hi sl Q I rx hs pl pu q
  rcases q with q | q
  · exact h pins s σ H x v vl vu lo hi sl Q I rx hs pl pu q
  · exact h' pins s σ H x v vl vu lo hi sl Q I rx hs pl pu q
def tSl (r : V → Option Int → Option Int → Hp → VK → Prop) (te : TE) (tl th : TO) : TE := fun σ H Q => te σ H fun x H1 => tl σ H1 fun l H2 => th σ H2 fun u H3 => r x l u H3 Q
theorem pe_slice {r : V → Option Int → Option Int → Hp → VK → Prop} (hr : SlR X r) (he : PE X e te) (hl : PO X lo tl) (hu : PO X hi th) : PE X (.Subscript e (.Slice lo hi none p2) pos) (tSl r te tl th) := by
  intro pins s σ H Q I h
  refine Subscript_ (thn (he pins s σ H _ I h) fun v s1 ⟨x, H1, I1, r1, q1⟩ => ?_)
  refine wpAny_Slice (thn (hl pins s1 σ H1 _ I1 q1) fun vl s2 ⟨l, H2, I2, pl, q2⟩ => thn (hu pins s2 σ H2 _ I2 q2) fun vu s3 ⟨u, H3, I3, pu, q3⟩ => ?_)
  rw [evalPart_none]
  refine wpAny_pure ?_
  have I4 : Inv X pins σ H3 { s3 with heap := s3.heap.push { cls := .type "slice", data := .fields #[vl, vu, .none] } } := I3.kept (t' := s3.toks) fun b ob q => Heap.get?_push_of_some _ q
  obtain ⟨T, id, hT, ht, hg⟩ := hr pins { s3 with heap := s3.heap.push { cls := .type "slice", data := .fields #[vl, vu, .none] } } σ H3 x v vl vu l u s3.heap.objs.size Q I4 r1 (Heap.IsSliceOf.new ..) pl pu q3
  show wpAny (model X.prog X.w) X.A (subscriptTail e (.Slice lo hi none p2) v (.ref s3.heap.objs.size)) (EP X pins σ Q) X.xe { s3 with heap := s3.heap.push { cls := .type "slice", data := .fields #[vl, vu, .none] } }
  exact tail_any (ops := [.ref s3.heap.objs.size, v]) ht hT hg (by with_unfolding_all rfl)
def cutV (xs : List V) (lo hi : Option Int) : List V := (xs.drop (HT.sIx xs.length 0 lo)).take (HT.sIx xs.length xs.length hi - HT.sIx xs.length 0 lo)
theorem cutV_length (xs : List V) (lo hi : Option Int) : (cutV xs lo hi).length ≤ xs.length := by
  unfold cutV
  rw [List.length_take, List.length_drop]
  omega
def rSlT (K : PySem.W.Frag) : V → Option Int → Option Int → Hp → VK → Prop := fun x lo hi H Q => ∃ a xs, x = .ref a ∧ SqT K H a xs ∧
  ¬ (HT.sIx xs.length 0 lo = 0 ∧ HT.sIx xs.length xs.length hi = xs.length) ∧ ∀ p, H p = none → Q (.ref p) (upd H p (.tup (cutV xs lo hi)))
theorem sl_tup : SlR X (rSlT X.K) := by
  intro pins s σ H x v vl vu lo hi sl Q I rx hs pl pu h
  obtain ⟨a, xs, rfl, hx, hw, q⟩ := h
  cases rx
  obtain ⟨its, r, ht, hz⟩ := I.tuple hx
  have hlen : its.toArray.size = xs.length := by rw [List.size_toArray]; exact r.length.symm
  refine ⟨"tuple", _, PyProof.Rows.slot_tuple_getitem.lookup, ht.typeIs, ?_⟩
  refine HT.getItem_tuple_cut ht hs pl pu (by rw [hlen]; exact hw) ?_ (by rw [hlen]; exact hz)
  rw [hlen]
  refine ⟨.ref s.heap.objs.size, _, I.laid (t' := s.toks) (o := .tup (cutV xs lo hi)) (fun b ob q => Heap.get?_push_of_some _ q) (Nat.le_refl _) ?_, rfl, q _ (I.hok.fresh (Nat.le_refl _))⟩
  exact ⟨Nat.le_trans (cutV_length xs lo hi) hz, _, (r.drop (HT.sIx xs.length 0 lo)).take (HT.sIx xs.length xs.length hi - HT.sIx xs.length 0 lo), IsTup.new _ _⟩
end
end L2
namespace L2
open PySem PySem.Spec PyProof.Rows
def ixN (n : Nat) (i : Int) : Option Nat := if 0 ≤ i then (if i < n then some i.toNat else none) else if -(n : Int) ≤ i then some (i + n).toNat else none
def atI {α : Type} (xs : List α) (i : Int) : Option α := (ixN xs.length i).bind fun j => xs[j]?
theorem ixN_seq {n : Nat} {i : Int} {j : Nat} (h : ixN n i = some j) : seqIndex? i n = some j ∧ j < n ∧ -(n : Int) ≤ i ∧ i < n := by
  unfold ixN at h
  by_cases h0 : 0 ≤ i
  · rw [if_pos h0] at h
    by_cases h1 : i < n
    · rw [if_pos h1] at h
      have e : i.toNat = j := Option.some.inj h
      exact ⟨by rw [seqIndex_of h0 h1, e], by omega, by omega, h1⟩
    · rw [if_neg h1] at h; cases h
  · rw [if_neg h0] at h
    by_cases h1 : -(n : Int) ≤ i
    · rw [if_pos h1] at h
      have e : (i + n).toNat = j := Option.some.inj h
      exact ⟨by rw [seqIndex_neg (by omega) h1, e], by omega, h1, by omega⟩
    · rw [if_neg h1] at h; cases h
theorem atI_get {α : Type} {xs : List α} {i : Int} {v : α} (h : atI xs i = some v) : ∃ j, seqIndex? i xs.length = some j ∧ xs[j]? = some v ∧ j < xs.length ∧ -(xs.length : Int) ≤ i ∧ i < xs.length := by
  unfold atI at h
  cases e : ixN xs.length i with
  | none => rw [e] at h; cases h
  | some j =>
    rw [e] at h
    obtain ⟨h1, h2, h3, h4⟩ := ixN_seq e
    exact ⟨j, h1, h, h2, h3, h4⟩
theorem atI_nat {α : Type} {xs : List α} {j : Nat} {v : α} (h : xs[j]? = some v) : atI xs (j : Int) = some v := by
  have hj : j < xs.length := (List.getElem?_eq_some_iff.mp h).1
  have e : ixN xs.length (j : Int) = some j := by
    unfold ixN
    rw [if_pos (by omega), if_pos (by omega)]; simp
  unfold atI; rw [e]; exact h
def PlainIx (b : Expr) : Prop := ∀ o i, subscripted b false o i = operate [o, i] (getItem o i)
def IxR (X : Cx) (r : R2) : Prop :=
  ∀ (value slice : Expr) (pins : List (Addr × Obj)) (s : Shared) (σ : St) (H : Hp) (x y : V) (v u : Value) (Q : VK), Inv X pins σ H s → RelV x v → RelV y u → r x y H Q →
    subscripted slice false v u = operate [v, u] (getItem v u) → wpAny (model X.prog X.w) X.A (subscriptTail value slice v u) (EP X pins σ Q) X.xe s
def MtR (X : Cx) (id : String) (r : V → List V → Hp → VK → Prop) : Prop :=
  ∀ (pins : List (Addr × Obj)) (s : Shared) (σ : St) (H : Hp) (x : V) (xs : List V) (v : Value) (us : List Value) (Q : VK), Inv X pins σ H s → RelV x v → Vals xs us → r x xs H Q →
    wpAny (model X.prog X.w) X.A (call (.builtin id) (v :: us)) (EP X pins σ Q) X.xe s
section
variable {X : Cx} {a b : Expr} {ta tb : TE} {pos : Pos}
theorem IxR.or {r r' : R2} (h : IxR X r) (h' : IxR X r') : IxR X (fun x y H Q => r x y H Q ∨ r' x y H Q) := by
  intro value slice pins s σ H x y v u Q I rx ry q hs
  rcases q with q | q
  · exact h value slice pins s σ H x y v u Q I rx ry q hs
  · exact h' value slice pins s σ H x y v u Q I rx ry q hs
theorem MtR.or {id : String} {r r' : V → List V → Hp → VK → Prop} (h : MtR X id r) (h' : MtR X id r') : MtR X id (fun x xs H Q => r x xs H Q ∨ r' x xs H Q) := by
  intro pins s σ H x xs v us Q I rx rs q
  rcases q with q | q
  · exact h pins s σ H x xs v us Q I rx rs q
  · exact h' pins s σ H x xs v us Q I rx rs q
theorem pe_ix {r : R2} (hr : IxR X r) (ha : PE X a ta) (hb : PE X b tb) (hs : PlainIx b) : PE X (.Subscript a b pos) (tOp r ta tb) := by
  intro pins s σ H Q I h
  exact Subscript_ (binT ha hb I h fun v u s2 x y H2 I2 rx ry q => hr a b pins s2 σ H2 x y v u Q I2 rx ry q (hs _ _))
def rIxL (K : PySem.W.Frag) : R2 := fun x y H Q => ∃ p xs i v, x = .ref p ∧ y = .int i ∧ SqL K H p xs ∧ atI xs i = some v ∧ Q v H
def rIxT (K : PySem.W.Frag) : R2 := fun x y H Q => ∃ p xs i v, x = .ref p ∧ y = .int i ∧ SqT K H p xs ∧ atI xs i = some v ∧ Q v H
def rIxS : R2 := fun x y H Q => ∃ z i c, x = .str z ∧ y = .int i ∧ z.length ≤ sizeLine ∧ atI z.cps.toList i = some c ∧ Q (.str ⟨#[c]⟩) H
theorem ix_list : IxR X (rIxL X.K) := by
  intro value slice pins s σ H x y v u Q I rx ry h hs
  obtain ⟨p, xs, i, z, rfl, rfl, hq, he, q⟩ := h
  cases rx
  obtain ⟨t, rfl⟩ := ry
  obtain ⟨its, r, pl, hz⟩ := I.list hq
  obtain ⟨j, h1, h2, h3, h4, h5⟩ := atI_get he
  obtain ⟨w, ew, rw'⟩ := r.get h2
  have hl := r.length
  have hn := line63
  have fin : EP X pins σ Q w s := ⟨z, H, I, rw', q⟩
  by_cases h0 : 0 ≤ i
  · have hj : i.toNat = j := by
      rw [seqIndex_of h0 h5] at h1
      exact Option.some.inj h1
    exact item_listR pl.isList h0 (by omega) (by rw [hj]; simpa using ew) fin hs
  · have hj : (i + (its.toArray.size : Int)).toNat = j := by
      rw [seqIndex_neg (by omega) h4] at h1
      rw [List.size_toArray, ← hl]
      exact Option.some.inj h1
    exact subscriptTail_builtinR (x := w) pl.isList.typeIs slot_list_getitem.lookup
      (wpAny_getItem_list_neg (Q := fun r s' => r = w ∧ EP X pins σ Q r s') pl.isList (by omega) (by rw [List.size_toArray] <;> omega) (by omega) (by rw [hj]; simpa using ew) ⟨rfl, fin⟩) hs
theorem ix_tup : IxR X (rIxT X.K) := by
  intro value slice pins s σ H x y v u Q I rx ry h hs
  obtain ⟨p, xs, i, z, rfl, rfl, hq, he, q⟩ := h
  cases rx
  obtain ⟨t, rfl⟩ := ry
  obtain ⟨its, r, pl, hz⟩ := I.tuple hq
  obtain ⟨j, h1, h2, h3, h4, h5⟩ := atI_get he
  obtain ⟨w, ew, rw'⟩ := r.get h2
  have hl := r.length
  have hn := line63
  have fin : EP X pins σ Q w s := ⟨z, H, I, rw', q⟩
  exact subscriptTail_builtinR (x := w) pl.typeIs slot_tuple_getitem.lookup
    (getItem_tuple (j := j) (Q := fun r s' => r = w ∧ EP X pins σ Q r s') pl (by omega) (by omega) (by rw [List.size_toArray, ← hl]; exact h1) (by simpa using ew) ⟨rfl, fin⟩) hs
theorem ix_str : IxR X rIxS := by
  intro value slice pins s σ H x y v u Q I rx ry h hs
  obtain ⟨z, i, c, rfl, rfl, hz, he, q⟩ := h
  obtain ⟨t, rfl⟩ := rx
  obtain ⟨t', rfl⟩ := ry
  obtain ⟨j, h1, h2, h3, h4, h5⟩ := atI_get he
  have hl : z.cps.toList.length = z.length := by simp [Str.length]
  rw [hl] at h1 h4 h5
  have hn := line63
  exact tail_any (typeIs_str s z t) slot_str_getitem.lookup (getItem_str (c := c) (by
    have e1 : decide (i < -(2 ^ 63 : Int)) = false := decide_eq_false (by omega)
    have e2 : decide (i ≥ 2 ^ 63) = false := decide_eq_false (by omega)
    rw [e1, e2, Bool.or_false]) (by rw [h1]; simpa using h2) ⟨.str ⟨#[c]⟩, H, I.tok _, ⟨_, rfl⟩, q⟩) hs
def rIx (K : PySem.W.Frag) : R2 := fun x y H Q => rIxL K x y H Q ∨ rIxT K x y H Q ∨ rIxS x y H Q
theorem ix_seq : IxR X (rIx X.K) := ix_list.or (ix_tup.or ix_str)
theorem Inv.lst {pins : List (Addr × Obj)} {σ : St} {H : Hp} {s : Shared} {p : Addr} {xs : List V} (I : Inv X pins σ H s) (h : H p = some (.lst xs)) :
    ∃ (its : List Value) (n : Nat), Vals xs its ∧ s.heap.get? p = some { cls := .type "list", data := .seq its.toArray n } ∧ xs.length ≤ sizeLine := by
  obtain ⟨z, its, n, r, e⟩ := I.hok p _ h
  exact ⟨its, n, r, e, z⟩
theorem slice_bounds (lo hi : Option Int) (n : Nat) : (sliceBounds lo hi none n).1 = ((HT.sIx n 0 lo : Nat) : Int) ∧ (sliceBounds lo hi none n).2.1 = ((HT.sIx n n hi : Nat) : Int) ∧ (sliceBounds lo hi none n).2.2 = 1 := by
  refine ⟨?_, ?_, rfl⟩
  · cases lo with
    | none => simp [sliceBounds, HT.sIx]
    | some i =>
      simp only [sliceBounds, HT.sIx, Option.getD_none, show (1 : Int) > 0 by decide, if_true]
      by_cases h : i < 0
      · simp only [h, if_true] <;> omega
      · simp only [h, if_false] <;> omega
  · cases hi with
    | none => simp [sliceBounds, HT.sIx]
    | some i =>
      simp only [sliceBounds, HT.sIx, Option.getD_none, show (1 : Int) > 0 by decide, if_true]
      by_cases h : i < 0
      · simp only [h, if_true] <;> omega
      · simp only [h, if_false] <;> omega
theorem slicePick_cut (its : List Value) (lo hi : Option Int) : slicePick its.toArray lo hi none = ((its.drop (HT.sIx its.length 0 lo)).take (HT.sIx its.length its.length hi - HT.sIx its.length 0 lo)).toArray := by
  obtain ⟨h1, h2, h3⟩ := slice_bounds lo hi its.toArray.size
  unfold slicePick
  rw [h1, h2, h3]
  simp only [sliceRange_one, pick_run, List.size_toArray] <;> rfl
def rSlL (K : PySem.W.Frag) : V → Option Int → Option Int → Hp → VK → Prop := fun x lo hi H Q => ∃ a xs, x = .ref a ∧ SqL K H a xs ∧ ∀ p, H p = none → Q (.ref p) (upd H p (.lst (cutV xs lo hi)))
theorem sl_list : SlR X (rSlL X.K) := by
  intro pins s σ H x v vl vu lo hi sl Q I rx hs pl pu h
  obtain ⟨a, xs, rfl, hx, q⟩ := h
  cases rx
  obtain ⟨its, r, ht, hz⟩ := I.list hx
  have hlen := r.length
  refine ⟨"list", _, slot_list_getitem.lookup, ht.isList.typeIs, ?_⟩
  refine wpAny_getItem_list_slice ht.isList hs pl pu .none (by simp) ?_ (by rw [List.size_toArray] <;> omega)
  rw [slicePick_cut, ← hlen]
  refine ⟨.ref s.heap.objs.size, _, I.laid (t' := s.toks) (o := .lst (cutV xs lo hi)) (fun b ob q => Heap.get?_push_of_some _ q) (Nat.le_refl _) ?_, rfl, q _ (I.hok.fresh (Nat.le_refl _))⟩
  exact ⟨Nat.le_trans (cutV_length xs lo hi) hz, _, 0, (r.drop (HT.sIx xs.length 0 lo)).take (HT.sIx xs.length xs.length hi - HT.sIx xs.length 0 lo), Heap.get?_push_size _ rfl⟩
def flatV : V → Bool
  | .non => true
  | .bl _ => true
  | .int _ => true
  | .str _ => true
  | _ => false
def eqV : V → V → Bool
  | .non, .non => true
  | .bl a, .bl b => a == b
  | .bl a, .int b => (if a then 1 else 0) == b
  | .int a, .bl b => a == (if b then 1 else 0)
  | .int a, .int b => a == b
  | .str a, .str b => a == b
  | _, _ => false
theorem eqAt_V {A : Around} {s : Shared} {y x : V} {u v : Value} (ry : RelV y u) (rx : RelV x v) (fy : flatV y = true) (fx : flatV x = true) : SeqAt.EqAt A s u v (eqV y x) := by
  cases y with
  | non =>
    cases ry
    cases x with
    | non => cases rx; exact SeqAt.EqAt.same _
    | bl b => cases rx; exact SeqAt.EqAt.none_bool b
    | int b => obtain ⟨t, rfl⟩ := rx; exact SeqAt.EqAt.none_int b t
    | str b => obtain ⟨t, rfl⟩ := rx; exact SeqAt.EqAt.none_str b t
    | _ => exact absurd (show false = true from fx) Bool.false_ne_true
  | bl a =>
    cases ry
    cases x with
    | non => cases rx; exact SeqAt.EqAt.bool_none a
    | bl b => cases rx; exact SeqAt.EqAt.bool_bool a b
    | int b => obtain ⟨t, rfl⟩ := rx; exact SeqAt.EqAt.bool_int a b t
    | str b => obtain ⟨t, rfl⟩ := rx; exact SeqAt.EqAt.bool_str a b t
    | _ => exact absurd (show false = true from fx) Bool.false_ne_true
  | int a =>
    obtain ⟨t', rfl⟩ := ry
    cases x with
    | non => cases rx; exact SeqAt.EqAt.int_none a t'
    | bl b => cases rx; exact SeqAt.EqAt.int_bool a t' b
    | int b => obtain ⟨t, rfl⟩ := rx; exact SeqAt.EqAt.int_int a t' b t
    | str b => obtain ⟨t, rfl⟩ := rx; exact SeqAt.EqAt.int_str a t' b t
    | _ => exact absurd (show false = true from fx) Bool.false_ne_true
  | str a =>
    obtain ⟨t', rfl⟩ := ry
    cases x with
    | non => cases rx; exact SeqAt.EqAt.str_none a t'
    | bl b => cases rx; exact SeqAt.EqAt.str_bool a t' b
    | int b => obtain ⟨t, rfl⟩ := rx; exact SeqAt.EqAt.str_int a t' b t
    | str b => obtain ⟨t, rfl⟩ := rx; exact SeqAt.EqAt.str_str a t' b t
    | _ => exact absurd (show false = true from fx) Bool.false_ne_true
  | _ => exact absurd (show false = true from fy) Bool.false_ne_true
def eqU (x : V) (u : Value) : Bool := match u with
  | .none => eqV .non x
  | .bool b => eqV (.bl b) x
  | .int i _ => eqV (.int i) x
  | .str z _ => eqV (.str z) x
  | _ => false
theorem eqU_of {x y : V} {u : Value} (r : RelV y u) (f : flatV y = true) : eqU x u = eqV y x := by
  cases y with
  | non => cases r; rfl
  | bl b => cases r; rfl
  | int i => obtain ⟨t, rfl⟩ := r; rfl
  | str z => obtain ⟨t, rfl⟩ := r; rfl
  | _ => exact absurd (show false = true from f) Bool.false_ne_true
theorem any_eqU {x : V} : ∀ {xs : List V} {us : List Value}, Vals xs us → xs.all flatV = true → us.any (eqU x) = xs.any fun y => eqV y x
  | _, _, .nil, _ => rfl
  | y :: xs, u :: us, .cons r t, f => by
    rw [List.all_cons, Bool.and_eq_true] at f
    rw [List.any_cons, List.any_cons, eqU_of r f.1, any_eqU t f.2]
theorem mem_eqAt {A : Around} {s : Shared} {x : V} {v : Value} (rx : RelV x v) (fx : flatV x = true) : ∀ {xs : List V} {us : List Value}, Vals xs us → xs.all flatV = true → ∀ u ∈ us, SeqAt.EqAt A s u v (eqU x u)
  | _, _, .nil, _ => fun u hu => by cases hu
  | y :: xs, u :: us, .cons r t, f => fun u' hu => by
    rw [List.all_cons, Bool.and_eq_true] at f
    rcases List.mem_cons.mp hu with rfl | hu
    · rw [eqU_of r f.1]; exact eqAt_V r rx f.1 fx
    · exact mem_eqAt rx fx t f.2 u' hu
def inV (x : V) (xs : List V) : Bool := xs.any fun y => eqV y x
def rIn (K : PySem.W.Frag) (neg : Bool) : R2 := fun x y H Q => ∃ p xs, y = .ref p ∧ (SqL K H p xs ∨ SqT K H p xs) ∧ flatV x = true ∧ xs.all flatV = true ∧ Q (.bl (if neg then !inV x xs else inV x xs)) H
theorem op_in_seq : OpR X (compareOp .In) (rIn X.K false) := by
  intro pins s σ H x y v u Q I rx ry h
  obtain ⟨p, xs, rfl, hq, fx, fs, q⟩ := h
  cases ry
  rcases hq with hq | hq
  · obtain ⟨its, r, pl, hz⟩ := I.list hq
    refine SeqAt.in_listAt (eqU x) pl.isList (fun w hw => mem_eqAt rx fx r fs w (by simpa using hw)) ⟨.bl _, H, I, rfl, ?_⟩
    rw [show its.toArray.any (eqU x) = its.any (eqU x) by simp, any_eqU r fs]
    exact q
  · obtain ⟨its, r, pl, hz⟩ := I.tuple hq
    refine SeqAt.in_tupleAt (eqU x) pl (fun w hw => mem_eqAt rx fx r fs w (by simpa using hw)) ⟨.bl _, H, I, rfl, ?_⟩
    rw [show its.toArray.any (eqU x) = its.any (eqU x) by simp, any_eqU r fs]
    exact q
theorem CallR.or {f : Value} {r r' : List V → Hp → VK → Prop} (h : CallR X f r) (h' : CallR X f r') : CallR X f (fun xs H Q => r xs H Q ∨ r' xs H Q) := by
  intro pins s σ H xs us Q I rs q
  rcases q with q | q
  · exact h pins s σ H xs us Q I rs q
  · exact h' pins s σ H xs us Q I rs q
theorem call_list_of : CallR X (.type "list") (fun xs H Q => ∃ p ys, xs = [.ref p] ∧ (SqL X.K H p ys ∨ SqT X.K H p ys) ∧ ∀ l, H l = none → Q (.ref l) (upd H l (.lst ys))) := by
  intro pins s σ H xs us Q I r h
  obtain ⟨p, ys, rfl, hq, q⟩ := h
  obtain ⟨u, rfl, rx⟩ := vals1 r
  cases rx
  have fin : ∀ (its : List Value), Vals ys its → ys.length ≤ sizeLine → ∀ (h' : Heap) (c' : Nat), (∀ b o', s.heap.get? b = some o' → h'.get? b = some o') →
      h'.get? s.heap.objs.size = some { cls := .type "list", dict := none, data := .seq its.toArray c', slots := #[] } → EP X pins σ Q (.ref s.heap.objs.size) { s with heap := h' } := fun its r' hz h' c' kp e =>
    ⟨.ref s.heap.objs.size, _, I.laid (t' := s.toks) kp (Nat.le_refl _) (show ObjOk X.prog X.w _ h' _ (.lst ys) from ⟨hz, its, c', r', e⟩), rfl, q _ (I.hok.fresh (Nat.le_refl _))⟩
  rcases hq with hq | hq
  · obtain ⟨its, r', pl, hz⟩ := I.list hq
    have hlen := r'.length
    obtain ⟨o, ho, hc, n, hd⟩ := pl.isList
    exact call_list_seq p (.inl rfl) ho hc hd (fun h' c' kp e => fin its r' hz h' c' kp e) (by simp only [List.size_toArray] <;> omega)
  · obtain ⟨its, r', pl, hz⟩ := I.tuple hq
    have hlen := r'.length
    obtain ⟨o, ho, hc, n, hd⟩ := pl
    exact call_list_seq p (.inr rfl) ho hc hd (fun h' c' kp e => fin its r' hz h' c' kp e) (by simp only [List.size_toArray] <;> omega)
theorem call_tuple_of : CallR X (.type "tuple") (fun xs H Q => ∃ p ys, xs = [.ref p] ∧ ((SqL X.K H p ys ∧ ∀ l, H l = none → Q (.ref l) (upd H l (.tup ys))) ∨ (SqT X.K H p ys ∧ Q (.ref p) H))) := by
  intro pins s σ H xs us Q I r h
  obtain ⟨p, ys, rfl, h⟩ := h
  obtain ⟨u, rfl, rx⟩ := vals1 r
  cases rx
  rcases h with ⟨hq, q⟩ | ⟨hq, q⟩
  · obtain ⟨its, r', pl, hz⟩ := I.list hq
    have hlen := r'.length
    refine call_tuple_list pl.isList (fun h' kp => ?_) (by simp only [List.size_toArray] <;> omega)
    have I1 : Inv X pins σ H { s with heap := h' } := I.kept (t' := s.toks) kp
    have I2 : Inv X pins σ (upd H h'.objs.size (.tup ys)) { s with heap := h'.push { cls := .type "tuple", data := .seq its.toArray } } :=
      I1.laid (t' := s.toks) (fun b o e => Heap.get?_push_of_some _ e) (Nat.le_refl _) (show ObjOk X.prog X.w _ _ _ (.tup ys) from ⟨hz, its, r', IsTup.new _ _⟩)
    exact ⟨.ref h'.objs.size, _, I2, rfl, q _ (I1.hok.fresh (Nat.le_refl _))⟩
  · obtain ⟨its, r', pl, hz⟩ := I.tuple hq
    exact call_tuple_same pl ⟨.ref p, H, I, rfl, q⟩
def tyV (K : PySem.W.Frag) (T : String) (x : V) (H : Hp) : Prop := match x with
  | .str _ => T = "str"
  | .int _ => T = "int"
  | .ref p => (T = "list" ∧ ∃ xs, SqL K H p xs) ∨ (T = "tuple" ∧ ∃ o, K.lookup p = some o ∧ o.cls = .type "tuple" ∧ o.dict = none) ∨
      (T = "dict" ∧ ((∃ kvs, H p = some (.dK kvs)) ∨ ∃ kvs, H p = some (.dT kvs))) ∨ (T = "set" ∧ ∃ S n, H p = some (.set S n))
  | _ => False
theorem tyV_is {pins : List (Addr × Obj)} {σ : St} {H : Hp} {s : Shared} {T : String} {x : V} {v : Value} (I : Inv X pins σ H s) (r : RelV x v) (ty : tyV X.K T x H) :
    s.TypeIs v T ∧ ∀ a, v = .ref a → ∃ ob, s.heap.get? a = some ob ∧ ob.dict = none := by
  cases x with
  | str z =>
    obtain ⟨t, rfl⟩ := r
    cases (show T = "str" from ty)
    exact ⟨typeIs_str s z t, fun _ e => nomatch e⟩
  | int i =>
    obtain ⟨t, rfl⟩ := r
    cases (show T = "int" from ty)
    exact ⟨typeIs_int s i t, fun _ e => nomatch e⟩
  | ref p =>
    cases r
    rcases ty with ⟨rfl, xs, hq⟩ | ⟨rfl, o, hk, hc, hd⟩ | ⟨rfl, hk⟩ | ⟨rfl, S, n, hk⟩
    · obtain ⟨its, _, pl, _⟩ := I.list hq
      refine ⟨pl.isList.typeIs, fun a e => ?_⟩
      cases e
      obtain ⟨o, n, e, c, hd, _⟩ := pl
      exact ⟨o, e, hd⟩
    · refine ⟨⟨o, I.kIn p o hk, hc⟩, fun a e => ?_⟩
      cases e
      exact ⟨o, I.kIn _ o hk, hd⟩
    · have z : ∃ o, s.heap.get? p = some o ∧ o.ExactDict := by
        rcases hk with ⟨kvs, hk⟩ | ⟨kvs, hk⟩
        · obtain ⟨_, _, _, _, o, _, _, e, ex, _⟩ := I.hok p _ hk
          exact ⟨o, e, ex⟩
        · obtain ⟨_, _, _, _, o, _, _, e, ex, _⟩ := I.hok p _ hk
          exact ⟨o, e, ex⟩
      obtain ⟨o, e, ex⟩ := z
      refine ⟨⟨o, e, ex.1⟩, fun a e2 => ?_⟩
      cases e2
      exact ⟨o, e, ex.2.1⟩
    · obtain ⟨o, _, _, _, e, ex, _⟩ := I.hok p _ hk
      refine ⟨⟨o, e, ex.1⟩, fun a e2 => ?_⟩
      cases e2
      exact ⟨o, e, ex.2.1⟩
  | _ => exact False.elim ty
def tBM (K : PySem.W.Frag) (T : String) (r : V → List V → Hp → VK → Prop) (to : TE) (t : TA) : TE := fun σ H Q => to σ H fun x H1 => tyV K T x H1 ∧ t σ H1 fun xs H2 => r x xs H2 Q
variable {o e : Expr} {es : List Expr} {to : TE} {t : TA} {name : Str} {apos cpos : Pos} {T id : String} {r : V → List V → Hp → VK → Prop}
theorem pe_bm (pa : PlainAttrs T) (slot : Slot T name id) (hty : typeOf (.builtin id) = pure (.type "method_descriptor")) (hm : MtR X id r) (ho : PE X o to) (ha : PA X (e :: es) t)
    (hbase : attributeBase o name X.env (eval o X.env) = eval o X.env := by rfl)
    (hfew : ((backTo cpos (starEach (e :: es) X.env)).all (fun x => !x.1) && (backToKw cpos (keywordEach [] X.env)).all (fun x => x.1.isSome)
      && decide ((e :: es).length + ([] : List Keyword).length + (if ([] : List Keyword).isEmpty then 0 else 1) < 30)) = true := by rfl)
    (hline : (apos.endLine == cpos.line) = true := by rfl) (hs : starEach (e :: es) X.env = (false, eval e X.env) :: starEach es X.env := by rfl) (hplain : (backTo cpos (starEach es X.env)).any (·.1) = false := by rfl) :
    PE X (.Call (.Attribute o name apos) (e :: es) [] cpos) (tBM X.K T r to t) := by
  intro pins s σ H Q I h
  refine wpAny_Call_method_late hbase hfew hline rfl (thn (ho pins s σ H _ I h) fun v s1 ⟨x, H1, I1, r1, ty, q1⟩ => ?_)
  obtain ⟨h1, h2⟩ := tyV_is I1 r1 ty
  refine ⟨T, id, pa, slot, hty, h1, h2, ?_⟩
  have hA := ha cpos pins s1 σ H1 _ I1 q1
  rw [hs] at hA ⊢
  refine Calls.callWith_builtin (by show (false || (backTo cpos (starEach es X.env)).any (·.1)) = false; rw [hplain] <;> rfl) (Calls.evalArgs_plain ?_)
  exact thn hA fun us s2 ⟨vs, H2, I2, r2, q2⟩ => hm pins s2 σ H2 x vs v us Q I2 r1 r2 q2
end
end L2
namespace L2
open PySem PySem.Spec PyProof.Rows
def MtM (X : Cx) (id : String) (r : V → List V → Hp → VK → Prop) : Prop :=
  ∀ (pins : List (Addr × Obj)) (s : Shared) (σ : St) (H : Hp) (x : V) (xs : List V) (v : Value) (us : List Value) (Q : VK), Inv X pins σ H s → RelV x v → Vals xs us → r x xs H Q →
    wpAny (model X.prog X.w) X.A (call (.builtin id) (v :: us)) (EP X pins σ Q) X.xe s
theorem Vals.one : ∀ {x : V} {us : List Value}, Vals [x] us → ∃ u, us = [u] ∧ RelV x u
  | _, _, .cons r .nil => ⟨_, rfl, r⟩
theorem Vals.zero : ∀ {us : List Value}, Vals [] us → us = []
  | _, .nil => rfl
theorem Vals.rep {xs : List V} {us : List Value} (h : Vals xs us) : ∀ k : Nat, Vals (List.replicate k xs).flatten (List.replicate k us).flatten
  | 0 => .nil
  | k + 1 => by
    rw [List.replicate_succ, List.replicate_succ, List.flatten_cons, List.flatten_cons]
    exact Vals.append h (Vals.rep h k)
section
variable {X : Cx} {pins : List (Addr × Obj)} {σ : St} {H : Hp} {s : Shared} {l b : Addr} {xs ys zs : List V}
theorem Inv.lset {its its' : List Value} {n : Nat} {f : Array Value → Array Value} {t' : Nat} (I : Inv X pins σ H s) (hH : H l = some (.lst xs))
    (e : s.heap.get? l = some { cls := .type "list", data := .seq its.toArray n }) (hf : f its.toArray = its'.toArray) (hv : Vals ys its') (hz : ys.length ≤ sizeLine) :
    Inv X pins σ (upd H l (.lst ys)) { s with heap := s.heap.update l (Obj.mapSeq f), toks := t' } := by
  have q := PySem.IsL.update e f
  rw [hf] at q
  refine I.write (x := l) (e := l) (by rw [hH]; exact trivial) (.inl rfl) (fun b' u hb hu => (Heap.get?_update_other s.heap (Obj.mapSeq f) (Ne.symm hb)).trans hu) ⟨_, q⟩ ?_
  exact ⟨hz, its', _, hv, q⟩
theorem Inv.lnew {its : List Value} {t' : Nat} (I : Inv X pins σ H s) (hv : Vals ys its) (hz : ys.length ≤ sizeLine) :
    Inv X pins σ (upd H s.heap.objs.size (.lst ys)) { s with heap := s.heap.push { cls := .type "list", data := .seq its.toArray }, toks := t' } :=
  I.laid (fun _ _ q => Heap.get?_push_of_some _ q) (Nat.le_refl _) ⟨hz, its, 0, hv, Heap.get?_push_size _ rfl⟩
theorem Inv.fresh (I : Inv X pins σ H s) : H s.heap.objs.size = none := I.hok.fresh (Nat.le_refl _)
theorem Inv.lstM (I : Inv X pins σ H s) (hH : H l = some (.lst xs)) : xs.length ≤ sizeLine ∧ ∃ (its : List Value) (n : Nat), Vals xs its ∧ xs.length = its.length ∧ s.heap.get? l = some { cls := .type "list", data := .seq its.toArray n } := by
  obtain ⟨z, its, n, r, e⟩ := I.hok l _ hH
  exact ⟨z, its, n, r, r.length, e⟩
end
section
variable {X : Cx}
def rAppend : V → List V → Hp → VK → Prop := fun x vs H Q => ∃ l xs y, x = .ref l ∧ vs = [y] ∧ H l = some (.lst xs) ∧ xs.length < sizeLine ∧ Q .non (upd H l (.lst (xs ++ [y])))
theorem mt_append : MtM X "list.append" rAppend := by
  intro pins s σ H x vs v us Q I rx rv h
  obtain ⟨l, xs, y, rfl, rfl, hH, hz, q⟩ := h
  cases rx
  obtain ⟨u, rfl, ru⟩ := rv.one
  obtain ⟨z, its, n, r, hl, e⟩ := I.lstM hH
  refine call_meets F.slot_list_append ⟨_, e, rfl⟩ F.entry_list_append (F.args_list_append_2 _ _) (PySem.list_append l its.toArray n u (by rw [List.size_toArray]; omega)) ⟨e, ?_⟩
  refine ⟨.non, _, I.lset (its' := its ++ [u]) hH e (by simp) (r.append (.cons ru .nil)) ?_, rfl, q⟩
  rw [List.length_append, List.length_singleton]
  omega
end
section
variable {prog : Program} {w : World} {A : Around} {E : Value → Shared → Prop} {s : Shared}
end
section
variable {X : Cx}
end
end L2
namespace Att
open PySem PySem.W PySem.Calls PyProof.Rows
theorem ints_of_wellAll {P : Params} {h : Heap} : ∀ (ns : List Int) (vs : List Value), WellAll P h vs (ns.map WData.int) → IntsAre vs ns := by
  intro ns
  induction ns with
  | nil =>
    intro vs w
    rw [List.map_nil] at w
    cases w
    exact .nil
  | cons n ns ih =>
    intro vs w
    rw [List.map_cons] at w
    cases w with
    | cons a b =>
      cases a
      exact .cons _ _ (ih _ b)
theorem script_of {l : OpenLaw} {n : Nat} (hn : l.most = some n) {P : Params} {h : Heap} {args : List WData} {vals : List Value}
    (hpre : l.row.toRowW.claim.pre args = true) (hwl : WellAll P h vals args) :
    ∃ a vs ns, vals = [Value.ref a] ∧ args = [WData.list (ns.map WData.int)] ∧ h.get? a = some { cls := .type "list", data := .seq vs.toArray } ∧ IntsAre vs ns ∧ ns.length ≤ n := by
  have hsh : WShape.hasAll [] args [.list .int] = true := (pre_splitW hpre).1
  have hc : l.pre.holds [] { args := args } = true := (pre_splitW hpre).2
  obtain ⟨d, r, rfl, h1, h2⟩ := hasAllW_cons hsh
  obtain rfl := hasAllW_nil h2
  obtain ⟨xs, rfl, h3⟩ := hasW_list h1
  obtain ⟨ns, rfl⟩ := items_int h3
  have hlen : ns.length ≤ n := by
    unfold OpenLaw.pre at hc
    have h4 : (WTm.not (.lt (.lit (.int (n : Int))) (.len (.arg 0)))).holds [] { args := [.list (ns.map .int)] } = true := by
      have h4 := (holds_andW hc).1
      rw [hn] at h4
      exact h4
    have h5 := condW_of h4 (w_not (w_lt w_lit (w_len_list (w_arg rfl))))
    rw [List.length_map] at h5
    refine Nat.le_of_not_lt fun q => ?_
    have q' : (n : Int) < ((ns.length : Nat) : Int) := by omega
    first
      | (rw [decide_eq_true q'] at h5; exact absurd h5 (by decide))
      | (simp at h5; omega)
  cases hwl with
  | cons w1 w2 =>
    cases w2
    cases w1 with
    | list ho hall => exact ⟨_, _, ns, rfl, rfl, ho, ints_of_wellAll ns _ hall, hlen⟩
theorem post_true (l : OpenLaw) (args : List WData) : l.row.toRowW.claim.post args (.bool true) args = true :=
  postW_of (r := l.row.toRowW) (X := (true == true))
    (show WShape.has [] (.bool true) .bool = true by first | rfl | decide | simp [WShape.has, WShape.arms, WShape.armsAll])
    (show (WTm.eq .res (.lit (.bool true))).value [] { args := args, res := some (.bool true), after := args } = some (.bool (true == true)) from w_eq_bool (w_res rfl) w_lit) rfl
section
variable {prog : Program} {w : World} {A : Around} {E : Value → Shared → Prop} {s : Shared} {K : Frag}
end
end Att
namespace L2
open PySem PySem.Spec PyProof.Rows
theorem vals_ints : ∀ {vs : List Value} {ns : List Int}, IntsAre vs ns → Vals (ns.map V.int) vs
  | _, _, .nil => .nil
  | _, _, .cons n t h => .cons ⟨t, rfl⟩ (vals_ints h)
def Only (H : Hp) : Prop := ∀ b, H b = none ∨ ∃ o xs, H b = some (.frz o (.lst xs))
theorem law_call {P : Program} {w : World} {K : PySem.W.Frag} {mg mb : Str → Option Value} {CX : CXT} {k : Nat} {fa a : Addr} {fd : FuncData} {x : Str} {sp : Sp} {s₁ : Shared} {vs : List Value} {ns : List Int}
    (KX : K.In s₁.heap) (hns : s₁.heap.Ns mainGlobals mg) (hb : s₁.heap.Ns builtinsNs mb) (hbb : ∀ x : Str, x ≠ "__name__" → mb x = bootBuiltins x) (hlim : s₁.heap.NoLimit) (hg : s₁.gens = #[])
    (ha : s₁.heap.get? a = some { cls := .type "list", data := .seq vs.toArray }) (hi : IntsAre vs ns) (hl : ns.length ≤ sizeLine) (hr : Room k callerA)
    (F : ∀ base : Heap, K.In base → base.Ns mainGlobals mg → FnOk P w K mg base CX k fa fd [x] sp) (hbind : ∀ (s : Shared) (u : Value), BindsTo s fd ⟨[u], []⟩ [(x, u)])
    (hsp : ∀ H : Hp, Only H → SqL K H a (ns.map V.int) → sp [.ref a] H (fun v _ => v = .bl true) fun _ _ _ => False)
    (hCX : ∀ H e s', CX [] H s₁ (fun _ _ _ => False) e s' → False) :
    codeAny (model P w) callerA (.call (.ref fa) ⟨[.ref a], []⟩) (fun r s' => r = .ok (.ret (.bool true)) ∧ OldK s₁.heap s'.heap ∧ s'.os = s₁.os ∧ AllBare s'.gens) s₁ := by
  have rv := vals_ints hi
  have lenV := hi.length
  have core : ∀ H : Hp, Only H → SqL K H a (ns.map V.int) → HOk P w H s₁.heap → (∀ b, H b ≠ none → b = a) → (H a ≠ none → K.lookup a = none) →
      codeAny (model P w) callerA (.call (.ref fa) ⟨[.ref a], []⟩) (fun r s' => r = .ok (.ret (.bool true)) ∧ OldK s₁.heap s'.heap ∧ s'.os = s₁.os ∧ AllBare s'.gens) s₁ := by
    intro H hO hS hok hA hK
    have base_of : ∀ {b : Addr} {o : Obj}, s₁.heap.get? b = some o → H b = none → (hidT s₁.heap H).get? b = some o := fun e n => hidT_get e n
    have noA : ∀ {b : Addr} {o : Obj} {es : Array DictEntry} {ep : Nat}, s₁.heap.get? b = some o → o.data = .dict es ep → H b = none := fun {b o es ep} e d => by
      cases q : H b with
      | none => rfl
      | some u =>
        have e' : b = a := hA b (by rw [q]; simp)
        subst e'
        rw [ha] at e; cases e
        have d' : Data.seq vs.toArray _ = Data.dict es ep := d
        cases d'
    have nsK : ∀ {b : Addr} {m : Str → Option Value}, s₁.heap.Ns b m → (hidT s₁.heap H).Ns b m := fun {b m} ⟨o, es, ep, e, d, r⟩ => ⟨o, es, ep, base_of e (noA e d), d, r⟩
    have hKb : K.In (hidT s₁.heap H) := fun b o e => base_of (KX b o e) (by
      cases q : H b with
      | none => rfl
      | some u =>
        have e' : b = a := hA b (by rw [q]; simp)
        subst e'
        rw [hK (by rw [q]; simp)] at e; cases e)
    have hM : Mod K mg (hidT s₁.heap H) := ⟨hKb, nsK hns, ⟨mb, nsK hb, hbb⟩, let ⟨mc, h1, h2⟩ := hlim; ⟨mc, nsK h1, h2⟩⟩
    have e0 : Env0 P w K mg (hidT s₁.heap H) callerA [] s₁ H := ⟨rfl, hM, fun b o e => of_hidT e, Nat.le_of_eq (hidT_size _ _), trivial, fun b hb => absurd (show b ∈ ([] : List Addr) from hb) (by simp), hok, .of_eq hg⟩
    refine codeAny_mono ((F _ hKb (nsK hns)).run callerA [] s₁ H ⟨[.ref a], []⟩ [.ref a] [.ref a] _ _ hr e0 (hbind s₁ (.ref a)) (.cons rfl .nil) (hsp H hO hS)) fun r s' h => ?_
    cases r with
    | error e => exact (hCX H e s' h).elim
    | ok fl =>
      cases fl with
      | next => exact False.elim h
      | brk => exact False.elim h
      | cont => exact False.elim h
      | ret u =>
        obtain ⟨v, H', os, bare, un, hok', r', q⟩ := h
        have q' : v = .bl true := q
        subst q'
        obtain rfl : u = Value.bool true := r'
        refine ⟨rfl, OldK.of_keep fun b o e => ?_, os, bare⟩
        cases q : H b with
        | none => exact un.keep b o e q (by intro z; exact absurd (show b ∈ ([] : List Addr) from z) (by simp)) (by simp)
        | some u =>
          rcases hO b with z | ⟨ob, xs, z⟩
          · rw [q] at z; cases z
          · have z2 := un.frzs b ob _ z
            obtain ⟨e1, _⟩ := hok b _ z
            obtain ⟨e2, _⟩ := hok' b _ z2
            rw [e] at e1; cases e1
            exact e2
  cases hk : K.lookup a with
  | some o =>
    have e := KX a o hk
    rw [ha] at e
    cases e
    refine core (fun _ => none) (fun _ => .inl rfl) (.inr ⟨_, vs.toArray, _, hk, rfl, rfl, rfl, by rw [List.size_toArray, lenV]; exact hl, by simpa using rv⟩) (fun b u z => by have z' : (none : Option HO) = some u := z; cases z') (fun b z => absurd rfl z) fun z => absurd rfl z
  | none =>
    refine core (fun b => if b = a then some (.frz { cls := .type "list", data := .seq vs.toArray } (.lst (ns.map V.int))) else none) (fun b => ?_) (.inl (.inr ⟨{ cls := .type "list", data := .seq vs.toArray }, if_pos rfl⟩)) (fun b u z => ?_) (fun b z => ?_) fun _ => hk
    · by_cases hb : b = a
      · exact .inr ⟨_, _, if_pos hb⟩
      · exact .inl (if_neg hb)
    · by_cases hb : b = a
      · have z' := (if_pos hb).symm.trans z
        cases z'
        subst hb
        exact ⟨ha, by rw [List.length_map]; exact hl, vs, _, rv, ha⟩
      · have z' := (if_neg hb).symm.trans z
        cases z'
    · by_cases hb : b = a
      · exact hb
      · exact absurd (if_neg hb) z
end L2
namespace L2
open PySem PySem.Spec PyProof.Rows
end L2
namespace L2
open PySem PySem.Spec PyProof.Rows
def defArgs (s : Stmt) : Arguments := match s with
  | .FunctionDef _ a _ _ _ _ _ _ _ _ => a
  | _ => { posonlyargs := [], args := [], vararg := none, kwonlyargs := [], kw_defaults := [], kwarg := none, defaults := [] }
def defBody (s : Stmt) : List Stmt := match s with
  | .FunctionDef _ _ b _ _ _ _ _ _ _ => b
  | _ => []
def defScope (s : Stmt) : Scope := match s with
  | .FunctionDef _ _ _ _ _ _ sc _ _ _ => sc
  | _ => { kind := .function, names := [], isGenerator := false, isCoroutine := false }
abbrev CX0 : CXT := fun _ _ _ _ _ _ => False
abbrev E0 : XK := fun _ _ _ => False
theorem pass0 {X : Cx} : Passes CX0 X E0 := fun _ _ _ _ _ _ _ h => h.elim
structure Fun (K : PySem.W.Frag) (x qual : Str) (st : Stmt) (f : Addr) (fd : FuncData) : Prop where
  ex : ∃ (oc : Value) (od : Option Addr) (kV doc pm : Value) (an : Option Addr) (cdv ct : Value) (osl : Array (Option Value)),
    fd = PySem.W.fnOf x qual (defArgs st) (defBody st) (defScope st) .none kV doc pm an cdv ct ∧ K.lookup f = some ⟨oc, od, .func fd, osl⟩ ∧ PySem.W.codeIn K cdv qual = true
  kp : PySem.W.keepIn K (.ref f) = true
section
variable {P : Program} {w : World} {K : PySem.W.Frag} {mg : Str → Option Value} {base : Heap}
theorem Fun.ok {x qual : Str} {st : Stmt} {f : Addr} {fd : FuncData} {N ps : List Str} {k : Nat} {sp : Sp} (F : Fun K x qual st f fd) (S : FnScope N ps (defScope st)) (len : ∀ vs H Q E, sp vs H Q E → vs.length = ps.length)
    (hbody : ∀ (cdv : Value) (A : Around) (outer : List Env) (s : Shared) (H : Hp) (vs : List V) (Q : VK) (E : XK), Room k (A.deeper (envOfC qual (defScope st) s.heap.objs.size f cdv)) → sp vs H Q E →
      ∃ t, PSs (cxOf CX0 P w K mg base N qual (defScope st) f cdv A outer s H E).nox (defBody st) t ∧ t { nx := fun _ H' => Q .non H', rt := Q } (start N vs) H) : FnOk P w K mg base CX0 (k + 1) f fd ps sp := by
  obtain ⟨oc, od, kV, doc, pm, an, cdv, ct, osl, rfl, lk, hcd⟩ := F.ex
  refine fn_of lk hcd S len fun A outer s H vs Q E hr hsp => ?_
  obtain ⟨t, h, q⟩ := hbody cdv A outer s H vs Q E hr hsp
  exact ⟨t, h.nox, q⟩
theorem Fun.binds {x qual : Str} {st : Stmt} {f : Addr} {fd : FuncData} {ps : List Str} (F : Fun K x qual st f fd)
    (h : ∀ (kV doc pm : Value) (an : Option Addr) (cdv ct : Value) (us : List Value), us.length = ps.length → bindArgs (PySem.W.fnOf x qual (defArgs st) (defBody st) (defScope st) .none kV doc pm an cdv ct) ⟨us, []⟩ = pure (ps.zip us)) : Binds K fd ps [] := by
  obtain ⟨oc, od, kV, doc, pm, an, cdv, ct, osl, rfl, lk, hcd⟩ := F.ex
  exact .all (h kV doc pm an cdv ct)
theorem fun_mk {x qual : Str} {st : Stmt} {f : Addr} {oc : Value} {od an : Option Addr} {osl : Array (Option Value)} {kV doc pm cdv ct : Value} (l : K.lookup f = some ⟨oc, od, .func (PySem.W.fnOf x qual (defArgs st) (defBody st) (defScope st) .none kV doc pm an cdv ct), osl⟩)
    (c : PySem.W.codeIn K cdv qual = true) (k : PySem.W.keepIn K (.ref f) = true) : Fun K x qual st f (PySem.W.fnOf x qual (defArgs st) (defBody st) (defScope st) .none kV doc pm an cdv ct) := ⟨⟨oc, od, kV, doc, pm, an, cdv, ct, osl, rfl, l, c⟩, k⟩
end
section
variable {X : Cx}
theorem pv (i : Nat) {x : Str} {pos : Pos} (hN : X.N[i]? = some x := by rfl) (hv : Vis X.env.scope x := by first | exact Or.inl rfl | exact Or.inr (Or.inl rfl) | exact Or.inr (Or.inr rfl)) (hd : (x == ("__debug__" : Str)) = false := by decide)
    (hcd : (x == ("__classdict__" : Str)) = false := by decide) : PE X (.Name x pos) (tVar i) := pe_var hN hv hd hcd
end
def Same (H H' : Hp) : Prop := ∀ b o, H b = some o → H' b = some o
theorem Same.refl (H : Hp) : Same H H := fun _ _ h => h
theorem Same.trans {H H1 H2 : Hp} (a : Same H H1) (b : Same H1 H2) : Same H H2 := fun c o h => b c o (a c o h)
theorem Same.free {H H' : Hp} (e : Same H H') {l : Addr} (h : H' l = Option.none) : H l = Option.none := by
  cases q : H l with
  | none => rfl
  | some o =>
    rw [e l o q] at h
    cases h
theorem Same.seq {K : PySem.W.Frag} {H H' : Hp} {a : Addr} {xs : List V} (e : Same H H') (h : SqL K H a xs) : SqL K H' a xs := by
  rcases h with (h | ⟨o, h⟩) | h
  · exact .inl (.inl (e _ _ h))
  · exact .inl (.inr ⟨o, e _ _ h⟩)
  · exact .inr h
end L2
set_option Elab.async false
set_option linter.all false
set_option maxRecDepth 100000
namespace L2
open PySem PySem.Spec PyProof.Rows
section
variable {κ : Type} [DecidableEq κ]
def valV (kvs : List (κ × V)) (k : κ) : Option V := (kvs.find? fun kv => decide (kv.1 = k)).map (·.2)
def putK (kvs : List (κ × V)) (k : κ) (v : V) : List (κ × V) :=
  if (kvs.any fun kv => decide (kv.1 = k)) = true then kvs.map (fun kv => if kv.1 = k then (kv.1, v) else kv) else kvs ++ [(k, v)]
def dropK (kvs : List (κ × V)) (k : κ) : List (κ × V) := kvs.filter fun kv => decide (kv.1 ≠ k)
theorem RelO.getD {o : Option V} {u : Option Value} {d : V} {d' : Value} (r : RelO o u) (rd : RelV d d') : RelV (o.getD d) (u.getD d') := by
  cases o with
  | none => cases u with
    | none => exact rd
    | some _ => exact (show False from r).elim
  | some _ => cases u with
    | none => exact (show False from r).elim
    | some _ => exact r
theorem KV.any {kvs : List (κ × V)} {vs : List (κ × Value)} (r : KV kvs vs) (k : κ) : (kvs.any fun kv => decide (kv.1 = k)) = vs.any fun kv => decide (kv.1 = k) := by
  unfold KV at r
  induction r with
  | nil => rfl
  | cons h t ih => rw [List.any_cons, List.any_cons, ih, h.1]
theorem KV.drop {kvs : List (κ × V)} {vs : List (κ × Value)} (r : KV kvs vs) (k : κ) : KV (dropK kvs k) (without vs k) := by
  unfold KV at r ⊢
  unfold dropK without
  induction r with
  | nil => exact .nil
  | @cons p q ps qs h t ih =>
    obtain ⟨h1, h2⟩ := h
    rw [List.filter_cons, List.filter_cons]
    by_cases e : p.1 = k
    · have a : ¬ decide (p.1 ≠ k) = true := by simp [e]
      have b : ¬ decide (q.1 ≠ k) = true := by simp [h1.symm.trans e]
      rw [if_neg a, if_neg b]; exact ih
    · have e' : ¬ q.1 = k := fun z => e (h1.trans z)
      have a : decide (p.1 ≠ k) = true := by simp [e]
      have b : decide (q.1 ≠ k) = true := by simp [e']
      rw [if_pos a, if_pos b]; exact .cons ⟨h1, h2⟩ ih
theorem KV.length {kvs : List (κ × V)} {vs : List (κ × Value)} (r : KV kvs vs) : kvs.length = vs.length := Paired.length r
end
theorem kV_is {P : Program} {w : World} {k : Key} {u : Value} (r : RelV (kV k) u) : (mixKind P w).is k u = true := by
  cases k with
  | inl i => obtain ⟨t, e⟩ := (show ∃ t, u = Value.int i t from r); subst e; exact mixKind_int P w i t
  | inr x => obtain ⟨t, e⟩ := (show ∃ t, u = Value.str x t from r); subst e; exact mixKind_str P w x t
theorem items_are {P : Program} {w : World} : ∀ {ks : List Key} {us : List Value}, Vals (ks.map kV) us → ItemsAre (mixKind P w) ks us
  | [], _, r => by rw [List.map_nil] at r; cases r; exact .nil
  | k :: ks, _, r => by
    rw [List.map_cons] at r
    cases r with
    | cons h t => exact .cons (kV_is h) (items_are t)
abbrev KT (H : Hp) : List (List Key × V) → List (List Key × Addr × Value) → Prop := Paired fun p q => p.1 = q.1 ∧ H q.2.1 = some (.tup (p.1.map kV)) ∧ RelV p.2 q.2.2
theorem KT.keeps {H H' : Hp} {kvs : List (List Key × V)} {xs : List (List Key × Addr × Value)} (r : KT H kvs xs) (ht : ∀ b ys, H b = some (.tup ys) → H' b = some (.tup ys)) : KT H' kvs xs :=
  Paired.mapP r fun _ _ z => ⟨z.1, ht _ _ z.2.1, z.2.2⟩
section
variable {P : Program} {w : World} {H : Hp} {h : Heap} {a : Addr}
theorem rd_of {u : HO} (ok : HOk P w H h) (e : Rd H a u) : ObjOk P w H h a u := e.ok ok
theorem key_of {ks : List Key} (ok : HOk P w H h) (e : H a = some (.tup (ks.map kV))) : (tupleKind (mixKind P w)).is h ks a := by
  obtain ⟨_, its, r, o, h1, h2, n, h3⟩ := (show ObjOk P w H h a (.tup (ks.map kV)) from ok a _ e)
  exact ⟨o, its.toArray, n, h1, h2, h3, by simpa using items_are r⟩
theorem dt_rd {kvs : List (List Key × V)} (ok : HOk P w H h) (e : Rd H a (.dT kvs)) : kvs.length ≤ sizeLine ∧ (a == sysModules) = false ∧
    ∃ xs, KT H kvs xs ∧ h.DictOfH (tupleKind (mixKind P w)) a xs := by
  obtain ⟨z, y, xs, r, o, es, ep, h1, h2, h3, h4, h5⟩ := (show ObjOk P w H h a (.dT kvs) from rd_of ok e)
  refine ⟨z, y, xs, r, o, es, ep, h1, h2, h3, h4, fun x hx => ?_, h5⟩
  have all : ∀ {l : List (List Key × V)} {m : List (List Key × Addr × Value)}, KT H l m → ∀ x ∈ m, (tupleKind (mixKind P w)).is h x.1 x.2.1 := by
    intro l m q
    induction q with
    | nil => intro x hx; exact nomatch hx
    | @cons p q ps qs hq t ih =>
      intro x hx
      rcases List.mem_cons.mp hx with e | hx
      · subst e
        exact key_of ok (by rw [← hq.1]; exact hq.2.1)
      · exact ih x hx
  exact all r x hx
theorem dt_of {kvs : List (List Key × V)} (ok : HOk P w H h) (e : H a = some (.dT kvs)) : kvs.length ≤ sizeLine ∧ (a == sysModules) = false ∧
    ∃ xs, KT H kvs xs ∧ h.DictOfH (tupleKind (mixKind P w)) a xs := dt_rd ok (.inl e)
end
def DGet (H : Hp) (a : Addr) (y : V) (r : Option V) : Prop :=
  (∃ kvs k, Rd H a (.dK kvs) ∧ y = kV k ∧ r = valV kvs k) ∨ ∃ kvs k b, Rd H a (.dT kvs) ∧ y = .ref b ∧ H b = some (.tup (k.map kV)) ∧ r = valV kvs k
def DPut (H : Hp) (a : Addr) (y v : V) (H' : Hp) : Prop :=
  (∃ kvs k, H a = some (.dK kvs) ∧ y = kV k ∧ kvs.length < sizeLine ∧ H' = upd H a (.dK (putK kvs k v))) ∨
  ∃ kvs k b, H a = some (.dT kvs) ∧ y = .ref b ∧ H b = some (.tup (k.map kV)) ∧ kvs.length < sizeLine ∧ H' = upd H a (.dT (putK kvs k v))
theorem DGet.k {H : Hp} {a : Addr} {kvs : List (Key × V)} {k : Key} (e : H a = some (.dK kvs)) : DGet H a (kV k) (valV kvs k) := .inl ⟨kvs, k, .inl e, rfl, rfl⟩
theorem DGet.t {H : Hp} {a b : Addr} {kvs : List (List Key × V)} {k : List Key} (e : H a = some (.dT kvs)) (eb : H b = some (.tup (k.map kV))) : DGet H a (.ref b) (valV kvs k) := .inr ⟨kvs, k, b, .inl e, rfl, eb, rfl⟩
theorem DPut.k {H : Hp} {a : Addr} {kvs : List (Key × V)} {k : Key} {v : V} (e : H a = some (.dK kvs)) (hl : kvs.length < sizeLine) : DPut H a (kV k) v (upd H a (.dK (putK kvs k v))) := .inl ⟨kvs, k, e, rfl, hl, rfl⟩
theorem DPut.t {H : Hp} {a b : Addr} {kvs : List (List Key × V)} {k : List Key} {v : V} (e : H a = some (.dT kvs)) (eb : H b = some (.tup (k.map kV))) (hl : kvs.length < sizeLine) :
    DPut H a (.ref b) v (upd H a (.dT (putK kvs k v))) := .inr ⟨kvs, k, b, e, rfl, eb, hl, rfl⟩
section
variable {X : Cx} {pins : List (Addr × Obj)} {σ : St} {H : Hp} {s : Shared} {a : Addr} {y v : V} {u r : Value} {o : Option V} {A : Around} {E : Value → Shared → Prop}
end
section
variable {X : Cx} {pins : List (Addr × Obj)} {σ : St} {H : Hp} {s : Shared} {a : Addr} {kvs : List (Key × V)} {k : Key} {u : Value} {A : Around} {E : Value → Shared → Prop}
end
section
variable {X : Cx} {o i e value : Expr} {pos pos' tpos : Pos} {td ty tv : TE}
end
section
variable {X : Cx} {pos : Pos}
end
structure M1 (X : Cx) (o : Expr) (m : Str) (apos : Pos) (e : Expr) (cpos : Pos) : Prop where
  base : attributeBase o m X.env (eval o X.env) = eval o X.env
  few : ((backTo cpos (starEach [e] X.env)).all (fun x => !x.1) && (backToKw cpos (keywordEach [] X.env)).all (fun x => x.1.isSome)
    && decide (([e] : List Expr).length + ([] : List Keyword).length + (if ([] : List Keyword).isEmpty then 0 else 1) < 30)) = true
  line : (apos.endLine == cpos.line) = true
  trees : backTo cpos (starEach [e] X.env) = [(false, eval e X.env)]
structure M2 (X : Cx) (o : Expr) (m : Str) (apos : Pos) (e f : Expr) (cpos : Pos) : Prop where
  base : attributeBase o m X.env (eval o X.env) = eval o X.env
  few : ((backTo cpos (starEach [e, f] X.env)).all (fun x => !x.1) && (backToKw cpos (keywordEach [] X.env)).all (fun x => x.1.isSome)
    && decide (([e, f] : List Expr).length + ([] : List Keyword).length + (if ([] : List Keyword).isEmpty then 0 else 1) < 30)) = true
  line : (apos.endLine == cpos.line) = true
  trees : backTo cpos (starEach [e, f] X.env) = [(false, eval e X.env), (false, eval f X.env)]
section
variable {X : Cx} {pins : List (Addr × Obj)} {σ : St} {H : Hp} {s : Shared} {a : Addr} {y d : V} {u r : Value} {o : Option V} {A : Around} {E : Value → Shared → Prop}
end
section
variable {X : Cx} {o e f : Expr} {apos cpos : Pos} {td ty tx : TE}
end
section
variable {X : Cx} {pins : List (Addr × Obj)} {σ : St} {H : Hp} {s : Shared} {a : Addr} {kvs : List (Key × V)} {A : Around} {E : Value → Shared → Prop}
end
section
variable {X : Cx} {pins : List (Addr × Obj)} {σ : St} {H : Hp} {s : Shared} {a : Addr} {y : V} {u : Value} {A : Around} {E : Value → Shared → Prop}
end
end L2
set_option Elab.async false
set_option linter.all false
set_option maxRecDepth 100000
set_option maxHeartbeats 4000000
namespace BF
open PySem L2
inductive Dm where
  | non | bl (b : Bool) | int (i : Int) | str (x : Str) | lst (ds : List Dm) | tup (ds : List Dm)
  deriving Inhabited
mutual
def Rep (K : PySem.W.Frag) (G : Hp) : Dm → V → Prop
  | .non, v => v = .non
  | .bl b, v => v = .bl b
  | .int i, v => v = .int i
  | .str x, v => v = .str x
  | .lst ds, v => ∃ a xs, v = .ref a ∧ SqL K G a xs ∧ Reps K G ds xs
  | .tup ds, v => ∃ a xs, v = .ref a ∧ SqT K G a xs ∧ Reps K G ds xs
def Reps (K : PySem.W.Frag) (G : Hp) : List Dm → List V → Prop
  | [], xs => xs = []
  | d :: ds, xs => ∃ v r, xs = v :: r ∧ Rep K G d v ∧ Reps K G ds r
end
theorem Same.seqT {K : PySem.W.Frag} {H H' : Hp} {a : Addr} {xs : List V} (e : Same H H') (h : SqT K H a xs) : SqT K H' a xs := by
  rcases h with h | h
  · refine .inl ?_
    rcases h with h | ⟨o, h⟩
    · exact .inl (e _ _ h)
    · exact .inr ⟨o, e _ _ h⟩
  · exact .inr h
mutual
theorem Rep.mono {K : PySem.W.Frag} {G G' : Hp} (s : Same G G') : ∀ {d : Dm} {v : V}, Rep K G d v → Rep K G' d v
  | .non, v, h => by unfold Rep at h ⊢; exact h
  | .bl b, v, h => by unfold Rep at h ⊢; exact h
  | .int i, v, h => by unfold Rep at h ⊢; exact h
  | .str x, v, h => by unfold Rep at h ⊢; exact h
  | .lst ds, v, h => by
    unfold Rep at h ⊢
    obtain ⟨a, xs, e, q, r⟩ := h
    exact ⟨a, xs, e, s.seq q, Reps.mono s r⟩
  | .tup ds, v, h => by
    unfold Rep at h ⊢
    obtain ⟨a, xs, e, q, r⟩ := h
    exact ⟨a, xs, e, Same.seqT s q, Reps.mono s r⟩
theorem Reps.mono {K : PySem.W.Frag} {G G' : Hp} (s : Same G G') : ∀ {ds : List Dm} {xs : List V}, Reps K G ds xs → Reps K G' ds xs
  | [], xs, h => by unfold Reps at h ⊢; exact h
  | d :: ds, xs, h => by
    unfold Reps at h ⊢
    obtain ⟨v, r, e, q, t⟩ := h
    exact ⟨v, r, e, Rep.mono s q, Reps.mono s t⟩
end
section
variable {K : PySem.W.Frag} {G : Hp}
theorem Reps.nil : Reps K G [] [] := by unfold Reps; rfl
theorem Reps.cons {d : Dm} {v : V} {ds : List Dm} {xs : List V} (h : Rep K G d v) (t : Reps K G ds xs) : Reps K G (d :: ds) (v :: xs) := by unfold Reps; exact ⟨v, xs, rfl, h, t⟩
theorem Reps.length : ∀ {ds : List Dm} {xs : List V}, Reps K G ds xs → ds.length = xs.length
  | [], xs, h => by unfold Reps at h; subst h; rfl
  | d :: ds, xs, h => by
    unfold Reps at h
    obtain ⟨v, r, e, q, t⟩ := h
    rw [e, List.length_cons, List.length_cons, Reps.length t]
theorem Reps.get : ∀ {ds : List Dm} {xs : List V} {i : Nat} {d : Dm}, Reps K G ds xs → ds[i]? = some d → ∃ v, xs[i]? = some v ∧ Rep K G d v
  | [], xs, i, d, h, e => by simp at e
  | c :: ds, xs, i, d, h, e => by
    unfold Reps at h
    obtain ⟨v, r, e1, q, t⟩ := h
    subst e1
    cases i with
    | zero => simp at e; subst e; exact ⟨v, rfl, q⟩
    | succ i => exact Reps.get (i := i) t (by simpa using e)
theorem Reps.append : ∀ {ds es : List Dm} {xs ys : List V}, Reps K G ds xs → Reps K G es ys → Reps K G (ds ++ es) (xs ++ ys)
  | [], es, xs, ys, h, h' => by unfold Reps at h; subst h; exact h'
  | d :: ds, es, xs, ys, h, h' => by
    unfold Reps at h
    obtain ⟨v, r, e1, q, t⟩ := h
    subst e1
    exact Reps.cons q (Reps.append t h')
theorem Reps.take : ∀ {ds : List Dm} {xs : List V} (n : Nat), Reps K G ds xs → Reps K G (ds.take n) (xs.take n)
  | ds, xs, 0, h => by simpa using Reps.nil
  | [], xs, n + 1, h => by unfold Reps at h; subst h; exact Reps.nil
  | d :: ds, xs, n + 1, h => by
    unfold Reps at h
    obtain ⟨v, r, e1, q, t⟩ := h
    subst e1
    exact Reps.cons q (Reps.take n t)
theorem Reps.drop : ∀ {ds : List Dm} {xs : List V} (n : Nat), Reps K G ds xs → Reps K G (ds.drop n) (xs.drop n)
  | ds, xs, 0, h => h
  | [], xs, n + 1, h => by unfold Reps at h; subst h; exact Reps.nil
  | d :: ds, xs, n + 1, h => by
    unfold Reps at h
    obtain ⟨v, r, e1, q, t⟩ := h
    subst e1
    exact Reps.drop n t
theorem Reps.set {e : Dm} {u : V} (he : Rep K G e u) : ∀ {ds : List Dm} {xs : List V} (n : Nat), Reps K G ds xs → Reps K G (ds.set n e) (xs.set n u)
  | [], xs, n, h => by unfold Reps at h; subst h; exact Reps.nil
  | d :: ds, xs, 0, h => by
    unfold Reps at h
    obtain ⟨v, r, e1, q, t⟩ := h
    subst e1
    exact Reps.cons he t
  | d :: ds, xs, n + 1, h => by
    unfold Reps at h
    obtain ⟨v, r, e1, q, t⟩ := h
    subst e1
    exact Reps.cons q (Reps.set he n t)
theorem Reps.rep {ds : List Dm} {xs : List V} (h : Reps K G ds xs) : ∀ k : Nat, Reps K G (List.replicate k ds).flatten (List.replicate k xs).flatten
  | 0 => Reps.nil
  | k + 1 => by
    rw [List.replicate_succ, List.replicate_succ, List.flatten_cons, List.flatten_cons]
    exact Reps.append h (Reps.rep h k)
end
def ExH (a C : Addr) : HO := .ext fun h => ∃ oe, h.get? a = some oe ∧ oe.cls = .ref C
def clsK (K : PySem.W.Frag) (c : Str) : Option Addr := match PySem.W.nsIn K mainGlobals c with
  | some (some (.ref C)) => some C
  | _ => none
def XcR (K : PySem.W.Frag) (G : Hp) (c : Str) (a : Addr) : Prop := ∃ C, clsK K c = some C ∧ G a = some (ExH a C)
theorem XcR.mono {K : PySem.W.Frag} {G G' : Hp} {c : Str} {a : Addr} (h : XcR K G c a) (s : Same G G') : XcR K G' c a := let ⟨C, e, z⟩ := h; ⟨C, e, s _ _ z⟩
inductive Sl where
  | un | sh (d : Dm) | ow (ds : List Dm) | so (C : Hp) (d : Dm) | pt (p : Addr) (k : Option Nat) (d : Dm) | xc (c : Str)
inductive Rs where
  | sh (d : Dm) | ow (ds : List Dm) | al (i : Nat) (ds : List Dm) | ft (pre es : List Dm)
def Rs.dat : Rs → Dm
  | .sh d => d
  | .ow ds => .lst ds
  | .al _ ds => .lst ds
  | .ft pre es => .tup (pre ++ [.lst es])
def tlen : Dm → Option Nat → Nat
  | .lst ds, none => ds.length
  | .tup cs, some k => match cs[k]? with
    | some (.lst es) => es.length
    | _ => 0
  | _, _ => 0
def Tgt (K : PySem.W.Frag) (G : Hp) : Option Nat → V → Addr → Prop
  | none, v, p => v = .ref p
  | some k, v, p => ∃ a vs, v = .ref a ∧ SqT K G a vs ∧ vs[k]? = some (.ref p)
theorem Tgt.mono {K : PySem.W.Frag} {G G' : Hp} (s : Same G G') : ∀ {k : Option Nat} {v : V} {p : Addr}, Tgt K G k v p → Tgt K G' k v p
  | none, _, _, h => h
  | some _, _, _, ⟨a, vs, e, q, r⟩ => ⟨a, vs, e, Same.seqT s q, r⟩
def SlR (K : PySem.W.Frag) (B G H : Hp) : Sl → Option (Option V) → Prop
  | .un, _ => True
  | .sh d, o => ∃ v, o = some (some v) ∧ Rep K G d v
  | .ow ds, o => ∃ p xs, o = some (some (.ref p)) ∧ H p = some (.lst xs) ∧ G p = none ∧ B p = none ∧ Reps K G ds xs
  | .so C d, o => ∃ v, o = some (some v) ∧ Rep K C d v ∧ Same C G
  | .pt p k d, o => ∃ v xs, o = some (some v) ∧ Rep K G d v ∧ G p = some (.lst xs) ∧ Tgt K G k v p ∧ tlen d k = xs.length
  | .xc c, o => ∃ a, o = some (some (.ref a)) ∧ XcR K G c a
def NS (δ : List Sl) (σ : St) (p : Addr) : Prop := ∀ (i : Nat) (ds : List Dm), δ[i]? = some (Sl.ow ds) → σ[i]? ≠ some (some (V.ref p))
structure Sim (K : PySem.W.Frag) (B G0 G : Hp) (δ : List Sl) (σ : St) (H : Hp) : Prop where
  len : δ.length = σ.length
  bh : Same B H
  g0 : Same G0 G
  gh : Same G H
  gb : ∀ b, B b ≠ none → G b = G0 b
  slot : ∀ (i : Nat) (s : Sl), δ[i]? = some s → SlR K B G H s (σ[i]?)
  disj : ∀ (i j : Nat) (ds es : List Dm) (p : Addr), i ≠ j → δ[i]? = some (Sl.ow ds) → δ[j]? = some (Sl.ow es) → σ[i]? = some (some (V.ref p)) → σ[j]? = some (some (V.ref p)) → False
structure Gr (G H G' H' : Hp) : Prop where
  gg : Same G G'
  hh : Same H H'
  nw : ∀ b, H b ≠ none → G' b = G b
theorem Gr.refl {G H : Hp} : Gr G H G H := ⟨Same.refl G, Same.refl H, fun _ _ => rfl⟩
theorem Gr.trans {G H G1 H1 G2 H2 : Hp} (a : Gr G H G1 H1) (b : Gr G1 H1 G2 H2) : Gr G H G2 H2 := ⟨a.gg.trans b.gg, a.hh.trans b.hh, fun c hc => by
  have h1 : H1 c ≠ none := by
    cases q : H c with
    | none => exact absurd q hc
    | some o => rw [a.hh c o q]; simp
  rw [b.nw c h1, a.nw c hc]⟩
def RsR (K : PySem.W.Frag) (H0 G H : Hp) (δ : List Sl) (σ : St) : Rs → V → Prop
  | .sh d, v => Rep K G d v
  | .ow ds, v => ∃ p xs, v = .ref p ∧ H p = some (.lst xs) ∧ G p = none ∧ H0 p = none ∧ Reps K G ds xs
  | .al i ds, v => δ[i]? = some (.ow ds) ∧ σ[i]? = some (some v)
  | .ft pre es, v => ∃ a p vs xs, v = .ref a ∧ H a = some (.tup (vs ++ [.ref p])) ∧ H p = some (.lst xs) ∧ G a = none ∧ G p = none ∧ H0 a = none ∧ H0 p = none ∧ Reps K G pre vs ∧ Reps K G es xs
abbrev EF := List Sl → Option Rs
def tD (K : PySem.W.Frag) (f : EF) : TE := fun σ H Q => ∃ B G0 G δ r, Sim K B G0 G δ σ H ∧ f δ = some r ∧
  ∀ v G' H', Sim K B G0 G' δ σ H' → Gr G H G' H' → RsR K H G' H' δ σ r v → Q v H'
def PD (X : Cx) (e : Expr) (f : EF) : Prop := PE X e (tD X.K f)
theorem PE.imp {X : Cx} {e : Expr} {t t' : TE} (h : PE X e t) (i : ∀ σ H Q, t' σ H Q → t σ H Q) : PE X e t' := fun pins s σ H Q I q => h pins s σ H Q I (i σ H Q q)
theorem PT.imp {X : Cx} {e : Expr} {t t' : TT} (h : PT X e t) (i : ∀ σ H Q, t' σ H Q → t σ H Q) : PT X e t' := fun pins s σ H Q I q => h pins s σ H Q I (i σ H Q q)
theorem PS.imp {X : Cx} {e : Stmt} {t t' : TS} (h : PS X e t) (i : ∀ D σ H, t' D σ H → t D σ H) : PS X e t' := fun pins s σ H Q I q => h pins s σ H Q I (i Q σ H q)
theorem PSs.imp {X : Cx} {e : List Stmt} {t t' : TS} (h : PSs X e t) (i : ∀ D σ H, t' D σ H → t D σ H) : PSs X e t' := fun pins s σ H Q I q => h pins s σ H Q I (i Q σ H q)
section
variable {K : PySem.W.Frag} {B B' G0 G G' H H' : Hp} {δ : List Sl} {σ : St}
theorem Same.upd_new {H : Hp} {p : Addr} {o : HO} (h : H p = none) : Same H (upd H p o) := fun b u e => by
  rw [upd_ne (ne_of_none e h)]; exact e
theorem Sim.grow (S : Sim K B G0 G δ σ H) (e : Same H H') : Sim K B G0 G δ σ H' where
  len := S.len
  bh := S.bh.trans e
  g0 := S.g0
  gh := S.gh.trans e
  gb := S.gb
  slot := fun i s h => by
    have q := S.slot i s h
    cases s with
    | un => trivial
    | sh d => exact q
    | ow ds => obtain ⟨p, xs, e1, e2, r⟩ := q; exact ⟨p, xs, e1, e _ _ e2, r⟩
    | so C d => exact q
    | pt p k d => exact q
    | xc C => exact q
  disj := S.disj
theorem Sim.view (S : Sim K B G0 G δ σ H) {p : Addr} {o : HO} (hp : H p = some o) (hg : G p = none) (hb : B p = none) (ns : NS δ σ p) : Sim K B G0 (upd G p o) δ σ H where
  len := S.len
  bh := S.bh
  g0 := S.g0.trans (Same.upd_new hg)
  gh := fun b u e => by
    by_cases z : b = p
    · subst z; rw [upd_same] at e; rw [hp]; exact e
    · rw [upd_ne z] at e; exact S.gh b u e
  gb := fun b hbb => by
    rw [upd_ne (by rintro rfl; exact hbb hb)]; exact S.gb b hbb
  slot := fun i s h => by
    have q := S.slot i s h
    cases s with
    | un => trivial
    | sh d => obtain ⟨v, e, r⟩ := q; exact ⟨v, e, r.mono (Same.upd_new hg)⟩
    | ow ds =>
      obtain ⟨q, xs, e1, e2, e3, e4, r⟩ := q
      refine ⟨q, xs, e1, e2, ?_, e4, r.mono (Same.upd_new hg)⟩
      rw [upd_ne (by rintro rfl; exact ns i ds h e1)]; exact e3
    | so C d => obtain ⟨v, e, r, z⟩ := q; exact ⟨v, e, r, z.trans (Same.upd_new hg)⟩
    | pt p' k d =>
      obtain ⟨v, xs, e, r, z, t, l⟩ := q
      exact ⟨v, xs, e, r.mono (Same.upd_new hg), Same.upd_new hg _ _ z, t.mono (Same.upd_new hg), l⟩
    | xc C => obtain ⟨a, e, z⟩ := q; exact ⟨a, e, z.mono (Same.upd_new hg)⟩
  disj := S.disj
theorem Sim.ns_of_free (S : Sim K B G0 G δ σ H) {p : Addr} (hp : H p = none) : NS δ σ p := fun i ds h e => by
  obtain ⟨q, xs, e1, e2, _⟩ := S.slot i _ h
  rw [e] at e1
  have e3 : p = q := by injection e1 with e1; injection e1 with e1; injection e1
  subst e3
  rw [hp] at e2; cases e2
theorem Sim.g_free (S : Sim K B G0 G δ σ H) {p : Addr} (hp : H p = none) : G p = none := S.gh.free hp
theorem Sim.b_free (S : Sim K B G0 G δ σ H) {p : Addr} (hp : H p = none) : B p = none := S.bh.free hp
theorem Sim.newSh (S : Sim K B G0 G δ σ H) {p : Addr} {o : HO} (hp : H p = none) : Sim K B G0 (upd G p o) δ σ (upd H p o) :=
  (S.grow (Same.upd_new hp)).view upd_same (S.g_free hp) (S.b_free hp) (S.ns_of_free hp)
def LstAt (K : PySem.W.Frag) (G H : Hp) (ds : List Dm) (v : V) : Prop := ∃ a xs, v = .ref a ∧ SqL K H a xs ∧ Reps K G ds xs
theorem RsR.rep (S : Sim K B G0 G δ σ H) {r : Rs} {v : V} (h : RsR K B' G H δ σ r v) : Rep K H r.dat v := by
  cases r with
  | sh d => exact Rep.mono S.gh h
  | ow ds =>
    obtain ⟨p, xs, e, e1, _, _, r⟩ := h
    show Rep K H (.lst ds) v
    unfold Rep
    exact ⟨p, xs, e, SqL.of e1, r.mono S.gh⟩
  | al i ds =>
    obtain ⟨h1, h2⟩ := h
    obtain ⟨p, xs, e, e1, _, _, r⟩ := S.slot i _ h1
    rw [h2] at e
    show Rep K H (.lst ds) v
    unfold Rep
    refine ⟨p, xs, ?_, SqL.of e1, r.mono S.gh⟩
    injection e with e; injection e
  | ft pre es =>
    obtain ⟨a, p, vs, xs, e, e1, e2, _, _, _, _, r1, r2⟩ := h
    show Rep K H (.tup (pre ++ [.lst es])) v
    unfold Rep
    refine ⟨a, _, e, SqT.of e1, (r1.mono S.gh).append (Reps.cons ?_ Reps.nil)⟩
    unfold Rep
    exact ⟨p, xs, rfl, SqL.of e2, r2.mono S.gh⟩
theorem RsR.lst (S : Sim K B G0 G δ σ H) {r : Rs} {v : V} {ds : List Dm} (h : RsR K B' G H δ σ r v) (e : r.dat = .lst ds) : LstAt K G H ds v := by
  cases r with
  | sh d =>
    obtain rfl : d = .lst ds := e
    have h' : Rep K G (.lst ds) v := h
    unfold Rep at h'
    obtain ⟨a, xs, e1, q, r⟩ := h'
    exact ⟨a, xs, e1, S.gh.seq q, r⟩
  | ow es =>
    obtain rfl : es = ds := by injection e
    obtain ⟨p, xs, e, e1, _, _, r⟩ := h
    exact ⟨p, xs, e, SqL.of e1, r⟩
  | al i es =>
    obtain rfl : es = ds := by injection e
    obtain ⟨h1, h2⟩ := h
    obtain ⟨p, xs, e, e1, _, _, r⟩ := S.slot i _ h1
    rw [h2] at e
    refine ⟨p, xs, ?_, SqL.of e1, r⟩
    injection e with e; injection e
  | ft pre es => cases e
theorem RsR.tup (S : Sim K B G0 G δ σ H) {r : Rs} {v : V} {ds : List Dm} (h : RsR K B' G H δ σ r v) (hs : (match r with | .ft _ _ => false | _ => true) = true) (e : r.dat = .tup ds) : ∃ a xs, v = .ref a ∧ SqT K H a xs ∧ Reps K G ds xs := by
  cases r with
  | sh d =>
    obtain rfl : d = .tup ds := e
    have h' : Rep K G (.tup ds) v := h
    unfold Rep at h'
    obtain ⟨a, xs, e1, q, r⟩ := h'
    exact ⟨a, xs, e1, Same.seqT S.gh q, r⟩
  | ow es => cases e
  | al i es => cases e
  | ft pre es => cases hs
def Rs.still : Rs → Bool
  | .ow _ => false
  | .ft _ _ => false
  | _ => true
theorem RsR.mono {r : Rs} {v : V} {B'' : Hp} (h : RsR K B' G H δ σ r v) (hs : r.still = true) (e : Same G G') : RsR K B'' G' H' δ σ r v := by
  cases r with
  | sh d => exact Rep.mono e h
  | ow ds => cases hs
  | al i ds => exact h
  | ft pre es => cases hs
end
def Rs.fz : Rs → Rs
  | .ow ds => .sh (.lst ds)
  | .ft pre es => .sh (.tup (pre ++ [.lst es]))
  | r => r
def fz (f : EF) : EF := fun δ => (f δ).map Rs.fz
theorem Rs.fz_still (r : Rs) : r.fz.still = true := by cases r <;> rfl
theorem Rs.fz_dat (r : Rs) : r.fz.dat = r.dat := by cases r <;> rfl
theorem tD_fz {K : PySem.W.Frag} {f : EF} {σ : St} {H : Hp} {Q : VK} (h : tD K (fz f) σ H Q) : tD K f σ H Q := by
  obtain ⟨B, G0, G, δ, r, S, e, k⟩ := h
  unfold fz at e
  cases e0 : f δ with
  | none => rw [e0] at e; cases e
  | some r0 =>
    rw [e0] at e
    have e' : r0.fz = r := Option.some.inj e
    subst e'
    refine ⟨B, G0, G, δ, r0, S, e0, fun v G' H' S' g q => ?_⟩
    cases r0 with
    | sh d => exact k v G' H' S' g q
    | al i ds => exact k v G' H' S' g q
    | ow ds =>
      obtain ⟨p, xs, rfl, e1, e2, e3, r⟩ := q
      refine k _ (upd G' p (.lst xs)) H' (S'.view e1 e2 (S.b_free e3) (S.ns_of_free e3)) ⟨g.gg.trans (Same.upd_new e2), g.hh, fun b hb => by rw [upd_ne (by rintro rfl; exact hb e3)]; exact g.nw b hb⟩ ?_
      show Rep K _ (.lst ds) _
      unfold Rep
      exact ⟨p, xs, rfl, SqL.of upd_same, r.mono (Same.upd_new e2)⟩
    | ft pre es =>
      obtain ⟨a, p, vs, xs, rfl, e1, e2, e3, e4, e5, e6, r1, r2⟩ := q
      have hne : a ≠ p := by rintro rfl; rw [e1] at e2; cases e2
      have S2 := S'.view e2 e4 (S.b_free e6) (S.ns_of_free e6)
      have ga : upd G' p (.lst xs) a = none := by rw [upd_ne hne]; exact e3
      have S3 := S2.view e1 ga (S.b_free e5) (S.ns_of_free e5)
      refine k _ _ H' S3 ⟨(g.gg.trans (Same.upd_new e4)).trans (Same.upd_new ga), g.hh, fun b hb => by rw [upd_ne (by rintro rfl; exact hb e5), upd_ne (by rintro rfl; exact hb e6)]; exact g.nw b hb⟩ ?_
      show Rep K _ (.tup (pre ++ [.lst es])) _
      unfold Rep
      refine ⟨a, _, rfl, SqT.of upd_same, (r1.mono ((Same.upd_new e4).trans (Same.upd_new ga))).append (Reps.cons ?_ Reps.nil)⟩
      unfold Rep
      exact ⟨p, xs, rfl, SqL.of (by rw [upd_ne (Ne.symm hne)]; exact upd_same), r2.mono ((Same.upd_new e4).trans (Same.upd_new ga))⟩
theorem PD.fz {X : Cx} {e : Expr} {f : EF} (h : PD X e f) : PD X e (fz f) := PE.imp h fun _ _ _ q => tD_fz q
structure KD (K : PySem.W.Frag) (B G0 G : Hp) (δ : List Sl) (σ : St) (H : Hp) (r : Rs) (Q : VK) : Prop where
  sim : Sim K B G0 G δ σ H
  out : ∀ v G' H', Sim K B G0 G' δ σ H' → Gr G H G' H' → RsR K H G' H' δ σ r v → Q v H'
section
variable {K : PySem.W.Frag} {B G0 G G' H H' : Hp} {δ : List Sl} {σ : St} {r : Rs} {Q : VK}
theorem RsR.pre {v : V} (h : RsR K H' G H δ σ r v) {H0 : Hp} (e : Same H0 H') : RsR K H0 G H δ σ r v := by
  cases r with
  | sh d => exact h
  | al i ds => exact h
  | ow ds => obtain ⟨p, xs, e1, e2, e3, e4, q⟩ := h; exact ⟨p, xs, e1, e2, e3, e.free e4, q⟩
  | ft pre es => obtain ⟨a, p, vs, xs, e1, e2, e3, e4, e5, e6, e7, q⟩ := h; exact ⟨a, p, vs, xs, e1, e2, e3, e4, e5, e.free e6, e.free e7, q⟩
theorem KD.step (k : KD K B G0 G δ σ H r Q) (S : Sim K B G0 G' δ σ H') (g : Gr G H G' H') : KD K B G0 G' δ σ H' r Q := ⟨S, fun v G2 H2 S2 g2 q => k.out v G2 H2 S2 (g.trans g2) (q.pre g.hh)⟩
theorem KD.tD {f : EF} (k : KD K B G0 G δ σ H r Q) (e : f δ = some r) : tD K f σ H Q := ⟨B, G0, G, δ, r, k.sim, e, k.out⟩
theorem KD.now {v : V} (k : KD K B G0 G δ σ H r Q) (q : RsR K H G H δ σ r v) : Q v H := k.out v G H k.sim Gr.refl q
theorem KD.newL {ds : List Dm} {xs : List V} {p : Addr} (k : KD K B G0 G δ σ H (.ow ds) Q) (hr : Reps K G ds xs) (hp : H p = none) : Q (.ref p) (upd H p (.lst xs)) :=
  k.out _ G _ (k.sim.grow (Same.upd_new hp)) ⟨Same.refl G, Same.upd_new hp, fun _ _ => rfl⟩ ⟨p, xs, rfl, upd_same, k.sim.g_free hp, hp, hr⟩
theorem KD.newT {ds : List Dm} {xs : List V} {p : Addr} (k : KD K B G0 G δ σ H (.sh (.tup ds)) Q) (hr : Reps K G ds xs) (hp : H p = none) : Q (.ref p) (upd H p (.tup xs)) := by
  refine k.out _ _ _ (k.sim.newSh hp) ⟨Same.upd_new (k.sim.g_free hp), Same.upd_new hp, fun b hb => upd_ne (by rintro rfl; exact hb hp)⟩ ?_
  show Rep K _ (.tup ds) _
  unfold Rep
  exact ⟨p, xs, rfl, SqT.of upd_same, hr.mono (Same.upd_new (k.sim.g_free hp))⟩
end
theorem Sim.ext {K : PySem.W.Frag} {B G0 G G' H H' : Hp} {δ : List Sl} {σ : St} (S : Sim K B G0 G δ σ H) (g : Gr G H G' H') (gh : Same G' H') : Sim K B G0 G' δ σ H' := by
  refine ⟨S.len, S.bh.trans g.hh, S.g0.trans g.gg, gh, fun b hb => ?_, fun i s hs => ?_, S.disj⟩
  · have hb' : H b ≠ none := by
      cases q : B b with
      | none => exact absurd q hb
      | some o => rw [S.bh b o q]; simp
    rw [g.nw b hb']; exact S.gb b hb
  · have q := S.slot i s hs
    cases s with
    | un => trivial
    | sh d => obtain ⟨v, e, r⟩ := q; exact ⟨v, e, r.mono g.gg⟩
    | ow ds =>
      obtain ⟨p, xs, e1, e2, e3, e4, r⟩ := q
      exact ⟨p, xs, e1, g.hh _ _ e2, by rw [g.nw p (by rw [e2]; simp)]; exact e3, e4, r.mono g.gg⟩
    | so C d => obtain ⟨v, e, r, z⟩ := q; exact ⟨v, e, r, z.trans g.gg⟩
    | pt p' k d => obtain ⟨v, xs, e, r, z, t, l⟩ := q; exact ⟨v, xs, e, r.mono g.gg, g.gg _ _ z, t.mono g.gg, l⟩
    | xc C => obtain ⟨a, e, z⟩ := q; exact ⟨a, e, z.mono g.gg⟩
end BF
set_option Elab.async false
set_option linter.all false
set_option maxRecDepth 100000
set_option maxHeartbeats 4000000
namespace BF
open PySem PySem.Spec PyProof.Rows L2
section
variable {X : Cx}
def rCatQ (K : PySem.W.Frag) : R2 := fun x y H Q => ∃ l b xs zs, x = .ref l ∧ y = .ref b ∧ SqL K H l xs ∧ SqL K H b zs ∧ xs.length + zs.length ≤ sizeLine ∧ ∀ p, H p = none → Q (.ref p) (upd H p (.lst (xs ++ zs)))
theorem op_catQ : OpR X (binaryOp .Add) (rCatQ X.K) := by
  intro pins s σ H x y v u Q I rx ry h
  obtain ⟨l, b, xs, zs, rfl, rfl, hH, hB, hz, q⟩ := h
  cases rx
  cases ry
  obtain ⟨its, r, pl, _⟩ := I.list hH
  obtain ⟨its2, r2, pl2, _⟩ := I.list hB
  obtain ⟨⟨cls, dd, data, sl⟩, ho, hc, n, hd⟩ := id pl.isList
  obtain ⟨⟨cls2, dd2, data2, sl2⟩, ho2, hc2, n2, hd2⟩ := id pl2.isList
  simp only at hc hd hc2 hd2
  subst hc hd hc2 hd2
  have l1 := r.length
  have l2 := r2.length
  refine concat_meets ⟨_, ho, rfl⟩ ⟨_, ho2, rfl⟩ noFill_list_add seq_list_add PySem.F.slot_list_add PySem.F.entry_list_add (PySem.F.args_list_add_2 _ _) (list_addW l b its.toArray its2.toArray n n2 dd dd2 sl sl2 (by rw [List.size_toArray, List.size_toArray]; omega)) ⟨ho, ho2, ?_⟩
  have ea : its.toArray ++ its2.toArray = (its ++ its2).toArray := by simp
  rw [ea]
  exact ⟨.ref _, _, I.lnew (t' := s.toks) (r.append r2) (by rw [List.length_append]; omega), rfl, q _ I.fresh⟩
theorem op_mulB : OpR X (binaryOp .Mult) (rI IntMulOk fun i j => .int (i * j)) := opI fun _ _ _ _ _ _ _ hc q => mul_int q hc
def CDivB (_i j : Int) : Prop := 0 < j ∧ j.natAbs.log2 < 9000
theorem op_fdivB : OpR X (binaryOp .FloorDiv) (rI CDivB fun i j => .int (i / j)) := opI fun i j _ _ _ _ _ hc q => by
  have h0 : j ≠ 0 := by have := hc.1; omega
  refine floordiv_int h0 ?_ (.inl (PyProof.noPylong_of_log2 hc.2))
  rw [Int.fdiv_eq_ediv_of_nonneg i (by have := hc.1; omega)]
  exact q
mutual
def toPy : Dm → PyData
  | .non => .none
  | .bl b => .bool b
  | .int i => .int i
  | .str x => .str x
  | .lst ds => .list (toPys ds)
  | .tup ds => .tuple (toPys ds)
def toPys : List Dm → List PyData
  | [] => []
  | d :: ds => toPy d :: toPys ds
end
mutual
theorem reads_of {pins : List (Addr × Obj)} {σ : L2.St} {H : Hp} {s : Shared} (I : Inv X pins σ H s) : ∀ {d : Dm} {v : V} {u : Value}, Rep X.K H d v → RelV v u → ∃ as, Reads s.heap u (toPy d) as
  | .non, v, u, h, r => by unfold Rep at h; subst h; cases r; exact ⟨_, .none⟩
  | .bl b, v, u, h, r => by unfold Rep at h; subst h; cases r; exact ⟨_, .bool b⟩
  | .int i, v, u, h, r => by unfold Rep at h; subst h; obtain ⟨t, rfl⟩ := r; exact ⟨_, .int i t⟩
  | .str x, v, u, h, r => by unfold Rep at h; subst h; obtain ⟨t, rfl⟩ := r; exact ⟨_, .str x t⟩
  | .lst ds, v, u, h, r => by
    unfold Rep at h
    obtain ⟨a, xs, rfl, q, rr⟩ := h
    cases r
    obtain ⟨its, rv, pl, _⟩ := I.list q
    obtain ⟨o, ho, hc, n, hd⟩ := pl.isList
    obtain ⟨as, ra⟩ := readsAll_of I rr rv
    exact ⟨_, .list ho hc hd (by simpa using ra)⟩
  | .tup ds, v, u, h, r => by
    unfold Rep at h
    obtain ⟨a, xs, rfl, q, rr⟩ := h
    cases r
    obtain ⟨its, rv, pl, _⟩ := I.tuple q
    obtain ⟨o, ho, hc, n, hd⟩ := pl
    obtain ⟨as, ra⟩ := readsAll_of I rr rv
    exact ⟨_, .tuple ho hc hd (by simpa using ra)⟩
theorem readsAll_of {pins : List (Addr × Obj)} {σ : L2.St} {H : Hp} {s : Shared} (I : Inv X pins σ H s) : ∀ {ds : List Dm} {xs : List V} {us : List Value}, Reps X.K H ds xs → Vals xs us → ∃ as, ReadsAll s.heap us (toPys ds) as
  | [], xs, us, h, r => by unfold Reps at h; subst h; cases r; exact ⟨_, .nil⟩
  | d :: ds, xs, us, h, r => by
    unfold Reps at h
    obtain ⟨v, t, rfl, h1, h2⟩ := h
    cases r with
    | cons r1 r2 =>
      obtain ⟨as, ra⟩ := reads_of I h1 r1
      obtain ⟨bs, rb⟩ := readsAll_of I h2 r2
      exact ⟨_, .cons ra rb⟩
end
def okEq (d : Dm) : Bool := PySem.SeqAt.shaped (toPy d)
def eqD (a b : Dm) : Bool := PyData.eqv (toPy a) (toPy b)
def rEqD (K : PySem.W.Frag) (neg : Bool) : R2 := fun x y H Q => ∃ a b, Rep K H a x ∧ Rep K H b y ∧ okEq a = true ∧ okEq b = true ∧ Q (.bl (if neg then !eqD a b else eqD a b)) H
theorem op_eqD (hu : X.A.units + 64 < cLine) : OpR X (compareOp .Eq) (rEqD X.K false) := by
  intro pins s σ H x y v u Q I rx ry h
  obtain ⟨a, b, ra, rb, ha, hb, q⟩ := h
  obtain ⟨as, Ra⟩ := reads_of I ra rx
  obtain ⟨bs, Rb⟩ := reads_of I rb ry
  exact eq_dataH Ra Rb ha hb hu ⟨.bl _, H, I, rfl, q⟩
theorem op_neD (hu : X.A.units + 64 < cLine) : OpR X (compareOp .NotEq) (rEqD X.K true) := by
  intro pins s σ H x y v u Q I rx ry h
  obtain ⟨a, b, ra, rb, ha, hb, q⟩ := h
  obtain ⟨as, Ra⟩ := reads_of I ra rx
  obtain ⟨bs, Rb⟩ := reads_of I rb ry
  exact ne_dataH Ra Rb ha hb hu ⟨.bl _, H, I, rfl, q⟩
def Dm.ty : Dm → String
  | .non => "NoneType" | .bl _ => "bool" | .int _ => "int" | .str _ => "str" | .lst _ => "list" | .tup _ => "tuple"
def isTy (d : Dm) (c : String) : Bool := d.ty == c || (d.ty == "bool" && c == "int")
def rIsi (K : PySem.W.Frag) : List V → Hp → VK → Prop := fun xs H Q => ∃ x d c, xs = [x, .ty c] ∧ Rep K H d x ∧ (c = "int" ∨ c = "bool" ∨ c = "str" ∨ c = "list" ∨ c = "tuple") ∧ Q (.bl (isTy d c)) H
theorem kit_of {K : PySem.W.Frag} (d : Dm) {c : String} (hc : c = "int" ∨ c = "bool" ∨ c = "str" ∨ c = "list" ∨ c = "tuple") : PySem.W.kitOne K (.type d.ty) (.type c) = some (isTy d c) := by
  rcases hc with rfl | rfl | rfl | rfl | rfl <;> cases d <;> kernel_rfl
theorem call_isi : CallR X (.builtin "isinstance") (rIsi X.K) := by
  intro pins s σ H xs us Q I r h
  obtain ⟨x, d, c, rfl, rx, hc, q⟩ := h
  obtain ⟨u, w', rfl, r1, r2⟩ := vals2 r
  cases (show w' = Value.type c from r2)
  have e : PySem.W.kitOne X.K (.type d.ty) (.type c) = some (isTy d c) := kit_of d hc
  have fin : ∀ tk, EP X pins σ Q (.bool (isTy d c)) { s with toks := tk } := fun tk => ⟨.bl _, H, I.tok _, rfl, q⟩
  cases d with
  | non => unfold Rep at rx; subst rx; exact isinst_ok I r1 .non e fin
  | bl b => unfold Rep at rx; subst rx; exact isinst_ok I r1 (.bl b) e fin
  | int i => unfold Rep at rx; subst rx; exact isinst_ok I r1 (.int i) e fin
  | str z => unfold Rep at rx; subst rx; exact isinst_ok I r1 (.str z) e fin
  | lst ds =>
    unfold Rep at rx
    obtain ⟨a, xs, rfl, q', _⟩ := rx
    cases (show u = Value.ref a from r1)
    obtain ⟨its, _, pl, _⟩ := I.list q'
    obtain ⟨o, h1, h2, _⟩ := pl.isList
    exact PySem.W.kia_one PySem.W.kitx_list I.kIn ⟨o, h1, h2⟩ e (fun z => nomatch z) fin
  | tup ds =>
    unfold Rep at rx
    obtain ⟨a, xs, rfl, q', _⟩ := rx
    cases (show u = Value.ref a from r1)
    obtain ⟨its, _, p, _⟩ := I.tuple q'
    obtain ⟨o, h1, h2, _⟩ := p
    exact PySem.W.kia_one PySem.W.kitx_tuple I.kIn ⟨o, h1, h2⟩ e (fun z => nomatch z) fin
end
end BF
set_option Elab.async false
set_option linter.all false
set_option maxRecDepth 100000
set_option maxHeartbeats 4000000
namespace BF
open PySem PySem.Spec L2
theorem turnNew {X : Cx} {pins : List (Addr × Obj)} {σ : L2.St} {H : Hp} {s : Shared} {h' : Heap} {t' : Nat} {ch : List Addr} {T : Addr} {o : HO} (I : Inv X pins σ H s) (hf : ∀ b ∈ ch, FpOk X pins H b)
    (k : ∀ b ob, b ∉ ch → s.heap.get? b = some ob → h'.get? b = some ob) (hT : s.heap.objs.size ≤ T) (new : ObjOk X.prog X.w (upd H T o) h' T o) : Inv X pins σ (upd H T o) { s with heap := h', toks := t' } := by
  have hn : H T = none := I.hok.fresh hT
  have nT : ∀ b ob, s.heap.get? b = some ob → b ≠ T := fun b ob e => Nat.ne_of_lt (Nat.lt_of_lt_of_le (Heap.lt_size e) hT)
  have nch : ∀ b u, H b = some u → b ∉ ch := fun b u e z => by rw [(hf b z).1] at e; cases e
  refine I.step (g' := s.gens) (d' := s.drawn) (ch := ch) (fun b hb => ?_) (fun b ob _ _ hc e _ => k b ob hc e) (fun b ob _ _ hc e _ => ⟨ob.slots, k b ob hc e⟩) (fun b ob _ e n => by rw [upd_ne (nT b ob e)]; exact n)
    (fun b ob hc e => ⟨ob, k b ob hc e⟩) (fun b xs e => by rw [upd_ne (ne_of_none e hn)]; exact e) (fun b ob u e => by rw [upd_ne (ne_of_none e hn)]; exact e) (fun b ps e => ⟨#[], by rw [upd_ne (ne_of_none e hn), e]; simp⟩) (fun m hm => ?_) (fun b u e => ?_) I.bare
  · obtain ⟨_, f1, _, f3, f4, f5⟩ := hf b hb
    exact ⟨f3, f1, f4, f5⟩
  · obtain ⟨ob, es, ep, ho, r⟩ := hm
    exact ⟨ob, es, ep, k _ ob (fun z => (hf _ z).2.1 rfl) ho, r⟩
  · by_cases hb : b = T
    · subst hb; rw [upd_same] at e; cases e; exact new
    · rw [upd_ne hb] at e
      refine (I.hok b u e).stay (fun c v hc q => k c v ?_ q) (fun c q => by rw [upd_ne (ne_of_none q hn)]; exact q) fun c xs q => by rw [upd_ne (ne_of_none q hn)]; exact q
      rcases hc with z | z
      · rw [z]; exact nch b u e
      · exact nch c _ z
def Ite (K : PySem.W.Frag) (a : Addr) : It :=
  ⟨fun i H => ∃ xs x, SqL K H a xs ∧ xs[i]? = some x, fun i H x H' => ∃ t, H t = none ∧ x = .ref t ∧ ∃ y, H' = upd H t (.tup [.int i, y]) ∧ ∀ xs, SqL K H a xs → xs[i]? = some y, fun i H => ∃ xs, SqL K H a xs ∧ xs.length ≤ i⟩
theorem turn_enum {P : Program} {w : World} {K : PySem.W.Frag} {elts : List Expr} {x1 : Nat} {tp : Pos} (a e it : Addr) (hne : e ≠ it) :
    Turn P w K (.Tuple elts x1 tp) (Ite K a) [e, it] e (fun i h => (∃ old, IsEnum h e it i old) ∧ h.IsListIter it a i) where
  mem := by simp
  obj := fun i h st b hb => by
    obtain ⟨⟨old, he⟩, hit⟩ := st
    rcases List.mem_cons.mp hb with rfl | hb
    · exact ⟨_, he, fun v z => by
        have z' : Data.fields _ = Data.cell v := z
        cases z'⟩
    · have eb : b = it := by simpa using hb
      subst eb
      obtain ⟨o, q, c, d⟩ := hit
      exact ⟨o, q, fun v z => by rw [d] at z; cases z⟩
  keep := fun i h h' st k => ⟨let ⟨old, he⟩ := st.1; ⟨old, k e (by simp) _ he⟩, st.2.at fun o q => k it (by simp) o q⟩
  item := by
    intro X hP hw hK hc i pins s σ H E I hf st hg
    subst hP hw hK
    obtain ⟨⟨old, he⟩, hit⟩ := st
    obtain ⟨xs, x, hq, hx⟩ := hg
    obtain ⟨its, rv, p, hz⟩ := I.list hq
    obtain ⟨u, hu, ru⟩ := rv.get hx
    refine wpAny_pyNext_enum_item he hit p.isList (x := u) (by simpa using hu) hne fun h' ho hit' hT hsz hk => ?_
    refine ⟨_, rfl, wpAny_letOwnedTupleGo_enum ho fun h'' he'' hs'' => ?_⟩
    have helt : e < s.heap.objs.size := Heap.lt_size he
    have hT2 : h''.get? s.heap.objs.size = some { cls := .type "tuple", data := .seq #[.int i s.toks, u] } := (hs''.2 _ (Nat.ne_of_gt helt)).trans hT
    refine ⟨.ref s.heap.objs.size, upd H s.heap.objs.size (.tup [.int i, x]), turnNew (s := s) (t' := s.toks + 1) (h' := h'') (ch := [e, it]) I hf (fun b ob hb q => ?_) (Nat.le_refl _) ?_, rfl, ⟨_, I.hok.fresh (Nat.le_refl _), rfl, x, rfl, fun ys hy => by rw [I.list_inj hy hq]; exact hx⟩, ?_, fun b hb => ?_⟩
    · have h1 : b ≠ e := fun z => hb (by simp [z])
      have h2 : b ≠ it := fun z => hb (by simp [z])
      exact (hs''.2 b h1).trans (hk b ob h1 h2 q)
    · exact ⟨by show 2 ≤ sizeLine; rw [sizeLine_eq]; decide, [.int i s.toks, u], .cons ⟨_, rfl⟩ (.cons ru .nil), ⟨_, hT2, rfl, _, rfl⟩⟩
    · refine ⟨⟨u, ?_⟩, hit'.at fun o q => (hs''.2 it hne.symm).trans q⟩
      have ei : ((i + 1 : Nat) : Int) = (i : Int) + 1 := by push_cast; rfl
      rw [ei]; exact he''
    · have lt : b < s.heap.objs.size := by
        rcases List.mem_cons.mp hb with rfl | hb
        · exact helt
        · have eb : b = it := by simpa using hb
          subst eb
          obtain ⟨o, q, _⟩ := hit
          exact Heap.lt_size q
      rw [upd_ne (Nat.ne_of_lt lt)]
      exact (hf b hb).1
  done := by
    intro X hP hw hK hc i pins s σ H E I hf st hg
    subst hP hw hK
    obtain ⟨⟨old, he⟩, hit⟩ := st
    obtain ⟨xs, hq, hx⟩ := hg
    obtain ⟨its, rv, p, hz⟩ := I.list hq
    have hl := rv.length
    obtain ⟨f0, f1, f2, f3, f4, f5⟩ := hf it (by simp)
    exact wpAny_pyNext_enum_end (I.ok.hd hc) he hit p.isList (by simp; omega) fun h' eb => ⟨rfl, I.turned (t' := s.toks) (fun b o hb e => eb b o hb e) f0 f1 f3 f4 f5⟩
  self := fun _ _ _ _ _ st h => let ⟨_, he⟩ := st.1; wpAny_pyIter_enum he h
def iEnum (K : PySem.W.Frag) (ta : TA) : TI := fun σ H R => ta σ H fun vs H1 => ∃ a, vs = [.ref a] ∧ (∃ xs, SqL K H1 a xs) ∧ R (Ite K a) H1
theorem pi_enum {X : Cx} {a : Expr} {ta : TA} {p pos : Pos} {elts : List Expr} {x1 : Nat} {tp : Pos} (hg : Gl X "enumerate") (hm : X.mg "enumerate" = none) (hb : bootBuiltins "enumerate" = some (.type "enumerate")) (ha : PA X [a] ta) (hs : starEach [a] X.env = [(false, eval a X.env)] := by rfl) :
    PI X (.Tuple elts x1 tp) (.Call (.Name "enumerate" p) [a] [] pos) (iEnum X.K ta) := by
  intro pins s σ H R I h
  refine PyProof.Rows.Call_ (ld_blt I hg hm hb (PyProof.Rows.callWith_type1 (thn (ha pos pins s σ H _ I h) fun us s1 ⟨vs, H1, I1, r1, q1⟩ => ?_) hs rfl))
  obtain ⟨l, e, ⟨xs, hq⟩, q⟩ := q1
  subst e
  obtain ⟨u, rfl, ru⟩ := vals1 r1
  cases ru
  obtain ⟨its, rv, pl, hz⟩ := I1.list hq
  refine call_enumerate_list pl.isList fun h' he hit hsz hk => ?_
  refine wpAny_pyIter_enum he ?_
  have I2 : Inv X pins σ H1 { s1 with heap := h' } := I1.kept (t' := s1.toks) hk
  refine ⟨s1.heap.objs.size + 1, [s1.heap.objs.size + 1, s1.heap.objs.size], _, _, H1, rfl, I2, turn_enum l _ s1.heap.objs.size (Nat.succ_ne_self _), ⟨⟨_, he⟩, hit⟩, fun b hb => ?_, q⟩
  rcases List.mem_cons.mp hb with rfl | hb
  · exact I1.fpOk (Nat.le_succ _) (I1.hok.fresh (Nat.le_succ _))
  · have eb : b = s1.heap.objs.size := by simpa using hb
    subst eb
    exact I1.fpOk (Nat.le_refl _) (I1.hok.fresh (Nat.le_refl _))
def clOf (cells : List (Str × Addr)) : List (Str × NameKind) → List (Str × Addr) → List (Str × Addr)
  | [], acc => acc
  | (n, k) :: r, acc => if k = .free then clOf cells r ((n, (cells.lookup n).getD 0) :: acc) else clOf cells r acc
theorem closure_aux {env : Env} : ∀ (names : List (Str × NameKind)) (acc : List (Str × Addr)), (∀ x ∈ names, x.2 = .free → ∃ c, env.cells.lookup x.1 = some c) →
    (forIn names acc fun (x : Str × NameKind) (cs : List (Str × Addr)) => if (x.2 == NameKind.free) = true then (do let a ← cellOf env x.1; pure (ForInStep.yield ((x.1, a) :: cs))) else pure (ForInStep.yield cs)) = (pure (clOf env.cells names acc) : Sem (List (Str × Addr)))
  | [], acc, _ => rfl
  | (n, k) :: r, acc, h => by
    rw [List.forIn_cons]
    have ih := fun acc => closure_aux (env := env) r acc fun x hx => h x (List.mem_cons_of_mem _ hx)
    by_cases hk : k = .free
    · subst hk
      obtain ⟨c, hc⟩ := h (n, .free) List.mem_cons_self rfl
      have hc' : env.cells.lookup n = some c := hc
      show ((if true = true then (do let a ← cellOf env n; pure (ForInStep.yield ((n, a) :: acc))) else pure (ForInStep.yield acc)) >>= _) = _
      rw [if_pos rfl]
      unfold cellOf
      rw [hc']
      show (pure (ForInStep.yield ((n, c) :: acc)) >>= _) = _
      rw [pure_bind]
      show _ = (pure (clOf env.cells ((n, .free) :: r) acc) : Sem _)
      rw [clOf, if_pos rfl, hc', ← ih]
      rfl
    · have hb : (k == NameKind.free) = false := by simpa using hk
      show ((if (k == NameKind.free) = true then _ else pure (ForInStep.yield acc)) >>= _) = _
      rw [if_neg (by rw [hb]; exact Bool.false_ne_true), pure_bind]
      show _ = (pure (clOf env.cells ((n, k) :: r) acc) : Sem _)
      rw [clOf, if_neg hk, ← ih]
theorem closure_of {scope : Scope} {env : Env} (h : ∀ x ∈ scope.names, x.2 = .free → ∃ c, env.cells.lookup x.1 = some c) : closureFor scope env = pure (clOf env.cells scope.names []) := by
  have := closure_aux (env := env) scope.names [] h
  unfold closureFor
  rw [← this]
  first
    | rfl
    | simp
theorem clOf_sound {cells : List (Str × Addr)} : ∀ {names : List (Str × NameKind)} {acc : List (Str × Addr)}, (∀ x ∈ names, x.2 = .free → ∃ c, cells.lookup x.1 = some c) → (∀ n c, acc.lookup n = some c → cells.lookup n = some c) → ∀ n c, (clOf cells names acc).lookup n = some c → cells.lookup n = some c
  | [], acc, _, ha, n, c, e => ha n c e
  | (m, k) :: r, acc, h, ha, n, c, e => by
    rw [clOf] at e
    have hr : ∀ x ∈ r, x.2 = .free → ∃ c, cells.lookup x.1 = some c := fun x hx => h x (List.mem_cons_of_mem _ hx)
    by_cases hk : k = .free
    · rw [if_pos hk] at e
      subst hk
      obtain ⟨d, hd⟩ := h (m, .free) List.mem_cons_self rfl
      refine clOf_sound hr (fun n' c' e' => ?_) n c e
      rw [List.lookup_cons] at e'
      by_cases hm : (n' == m) = true
      · rw [hm] at e'
        have hd' : cells.lookup m = some d := hd
        rw [hd'] at e'
        have : n' = m := by simpa using hm
        rw [this, hd']
        exact e'
      · have hm' : (n' == m) = false := by simpa using hm
        rw [hm'] at e'
        exact ha n' c' e'
    · rw [if_neg hk] at e
      exact clOf_sound hr ha n c e
theorem clOf_has {cells : List (Str × Addr)} : ∀ {names : List (Str × NameKind)} {acc : List (Str × Addr)} (n : Str), ((n, NameKind.free) ∈ names ∨ ∃ c, acc.lookup n = some c) → ∃ c, (clOf cells names acc).lookup n = some c
  | [], acc, n, h => by
    rcases h with h | h
    · cases h
    · exact h
  | (m, k) :: r, acc, n, h => by
    rw [clOf]
    by_cases hk : k = .free
    · rw [if_pos hk]
      refine clOf_has n ?_
      rcases h with h | ⟨c, h⟩
      · rcases List.mem_cons.mp h with e | h
        · refine .inr ⟨(cells.lookup m).getD 0, ?_⟩
          have e1 : n = m := by injection e
          rw [List.lookup_cons, e1]
          simp
        · exact .inl h
      · refine .inr ?_
        rw [List.lookup_cons]
        cases hm : (n == m) with
        | true => exact ⟨_, rfl⟩
        | false => exact ⟨c, h⟩
    · rw [if_neg hk]
      refine clOf_has n ?_
      rcases h with h | h
      · rcases List.mem_cons.mp h with e | h
        · injection e with _ e2
          exact absurd e2.symm hk
        · exact .inl h
      · exact .inr h
theorem lookup_relabel {env : Env} {x : Str} : ∀ {names : List (Str × NameKind)} {k : NameKind},
    (names.map fun (n, k) => if (k == NameKind.free && env.scope.kind == .function && env.kindOf n == some .cell) then (n, NameKind.cell) else (n, k)).lookup x = some k →
      ∃ k0, names.lookup x = some k0 ∧ (k = k0 ∨ (k0 = .free ∧ k = .cell))
  | [], k, h => by simp at h
  | (n, k') :: r, k, h => by
    rw [List.map_cons] at h
    by_cases hc : (k' == NameKind.free && env.scope.kind == .function && env.kindOf n == some .cell) = true
    · have e : (match ((n, k') : Str × NameKind) with | (n, k) => if (k == NameKind.free && env.scope.kind == .function && env.kindOf n == some .cell) = true then (n, NameKind.cell) else (n, k)) = (n, NameKind.cell) := if_pos hc
      rw [e, List.lookup_cons] at h
      rw [List.lookup_cons]
      cases hx : (x == n) with
      | true =>
        rw [hx] at h
        have hk : k' = .free := by
          rw [Bool.and_eq_true, Bool.and_eq_true] at hc
          simpa using hc.1.1
        exact ⟨k', rfl, .inr ⟨hk, (Option.some.inj h).symm⟩⟩
      | false => rw [hx] at h; exact lookup_relabel h
    · have e : (match ((n, k') : Str × NameKind) with | (n, k) => if (k == NameKind.free && env.scope.kind == .function && env.kindOf n == some .cell) = true then (n, NameKind.cell) else (n, k)) = (n, k') := if_neg hc
      rw [e, List.lookup_cons] at h
      rw [List.lookup_cons]
      cases hx : (x == n) with
      | true => rw [hx] at h; exact ⟨k', rfl, .inl (Option.some.inj h).symm⟩
      | false => rw [hx] at h; exact lookup_relabel h
structure CompOk (N : List Str) (sc scope : Scope) (N' : List Str) (ix : List (Option Nat)) : Prop where
  cell : ∀ y ∈ scope.names, y.2 ≠ .cell
  kind : scope.kind = .function
  loc : ∀ y ∈ scope.names, y.2 = .local → scope.names.lookup y.1 = some .local
  fre : ∀ y ∈ scope.names, y.2 = .free → sc.names.lookup y.1 = some .cell ∨ sc.names.lookup y.1 = some .free
  len : N'.length = ix.length
  at_ : ∀ p ∈ N'.zip ix, ∀ i, p.2 = some i → N[i]? = some p.1 ∧ scope.names.lookup p.1 ≠ some .local
  nd : N'.Nodup
def sub {α : Type} (ix : List (Option Nat)) (σ : List (Option α)) : List (Option α) := ix.map fun o => match o with
  | some i => (σ[i]?).join
  | none => none
def Xc (X : Cx) (scope : Scope) (C : Addr) (s : Shared) (H : Hp) (fp : List Addr) (N' : List Str) (E : Value → Shared → Prop) : Cx :=
  { X with N := N', s₀ := s, H₀ := H, env := compEnvC scope (clOf X.env.cells scope.names []) C X.env, outer := X.stack, stack := X.stack, ex := fp, fn := fun _ => false, xe := E }
theorem mem_of_lookup {x : Str} {k : NameKind} : ∀ {l : List (Str × NameKind)}, l.lookup x = some k → (x, k) ∈ l
  | [], h => by simp at h
  | (n, k') :: r, h => by
    rw [List.lookup_cons] at h
    cases hx : (x == n) with
    | true =>
      rw [hx] at h
      have : x = n := by simpa using hx
      rw [this, ← Option.some.inj h]
      exact List.mem_cons_self
    | false => rw [hx] at h; exact List.mem_cons_of_mem _ (mem_of_lookup h)
theorem inv_comp {X : Cx} {pins : List (Addr × Obj)} {σ : L2.St} {H : Hp} {s : Shared} {h₁ : Heap} {t : Nat} {scope : Scope} {fp : List Addr} {N' : List Str} {ix : List (Option Nat)} {E : Value → Shared → Prop} (I : Inv X pins σ H s)
    (hf : ∀ b ∈ fp, FpOk X pins H b) (hfl : ∀ b ∈ fp, b < s.heap.objs.size) (ck : CompOk X.N X.env.scope scope N' ix) (hns : ∃ m, h₁.Ns s.heap.objs.size m) (hk : ∀ b o, s.heap.get? b = some o → h₁.get? b = some o) :
    Inv (Xc X scope s.heap.objs.size s H fp N' E) pins (sub ix σ) H { s with heap := h₁, toks := t } := by
  have kf : ∀ x : Str, X.env.kindOf x = X.env.scope.names.lookup x := fun _ => rfl
  have hclos : ∀ x ∈ scope.names, x.2 = .free → ∃ c, X.env.cells.lookup x.1 = some c := fun x hx hfr => I.ok.has x.1 (ck.fre x hx hfr)
  have clS : ∀ n c, (clOf X.env.cells scope.names []).lookup n = some c → X.env.cells.lookup n = some c := clOf_sound hclos (fun n c e => by simp at e)
  have kd : ∀ x k, (relabel scope X.env).names.lookup x = some k → (k = .cell ∨ k = .free) → (x, NameKind.free) ∈ scope.names := fun x k e hk => by
    obtain ⟨k0, e0, h0⟩ := lookup_relabel e
    have m0 := mem_of_lookup e0
    rcases h0 with rfl | ⟨rfl, _⟩
    · rcases hk with rfl | rfl
      · exact absurd rfl (ck.cell _ m0)
      · exact m0
    · exact m0
  have neL : ∀ b, b ∈ frs X.stack → b < s.heap.objs.size := fun b hb => by
    have := I.stack.mem hb
    obtain ⟨_, o, ho, _⟩ := this
    exact Heap.lt_size ho
  refine ⟨?_, rfl, I.bare, Un.kept hk, ?_, ?_, I.hok.fresh (Nat.le_refl _), ?_, ?_, I.hok.kept hk, ?_⟩
  · refine ⟨I.ok.mod, ck.kind, I.ok.glob, I.ok.blt, Nat.le_refl _, fun x y c e1 e2 => I.ok.inj x y c (clS x c e1) (clS y c e2), fun x hx => ?_, fun x c h => (by cases h), I.ok.hd, I.ok.frames, .inl rfl, fun b hb => ?_, fun b o e => I.bs b o e, Nat.le_trans I.ok.bsz I.sz, fun b o e hb => ?_, fun b hb z => ?_, I.stack, fun b hb => I.stkFree b hb⟩
    · rcases hx with hx | hx
      · exact clOf_has x (.inl (kd x _ hx (.inl rfl)))
      · exact clOf_has x (.inl (kd x _ hx (.inr rfl)))
    · exact ⟨Nat.ne_of_lt (hfl b hb), fun x c e => (hf b hb).2.2.2.2.1 x c (clS x c e)⟩
    · rcases (hf b hb).2.2.2.1 with z | z
      · exact I.ok.noex b o e z
      · exact absurd (Nat.lt_of_lt_of_le (Heap.lt_size e) (Nat.le_trans I.ok.bsz z)) (Nat.lt_irrefl _)
    · rcases List.mem_cons.mp (I.stkSub b z) with z | z
      · exact (hf b hb).2.1 z
      · exact (hf b hb).2.2.1 z
  · obtain ⟨m0, hn0⟩ := hns
    refine ⟨m0, hn0, fun j x v e1 e2 e3 => ?_⟩
    have e1' : N'[j]? = some x := e1
    have hj : j < ix.length := by rw [← ck.len]; exact (List.getElem?_eq_some_iff.mp e1').1
    have e2' : ((ix[j]?).map fun o => match o with | some i => (σ[i]?).join | none => none) = some (some v) := by
      unfold sub at e2
      rw [List.getElem?_map] at e2
      exact e2
    rw [List.getElem?_eq_getElem hj] at e2'
    cases ei : ix[j] with
    | none => rw [ei] at e2'; cases e2'
    | some i =>
      rw [ei] at e2'
      have e4 : σ[i]? = some (some v) := by
        have e5 : (σ[i]?).join = some v := Option.some.inj e2'
        cases q : σ[i]? with
        | none => rw [q] at e5; cases e5
        | some o => rw [q] at e5; exact congrArg some e5
      have mem : (x, some i) ∈ N'.zip ix := by
        rw [List.mem_iff_getElem?]
        refine ⟨j, ?_⟩
        rw [List.getElem?_zip_eq_some]
        exact ⟨e1', by rw [List.getElem?_eq_getElem hj, ei]⟩
      obtain ⟨a1, a2⟩ := ck.at_ _ mem i rfl
      have hfree : (x, NameKind.free) ∈ scope.names := by
        rcases e3 with e3 | e3 | e3
        · exfalso
          obtain ⟨k0, e0, h0⟩ := lookup_relabel (env := X.env) (show ((scope.names.map fun (n, k) => if (k == NameKind.free && X.env.scope.kind == .function && X.env.kindOf n == some .cell) then (n, NameKind.cell) else (n, k)).lookup x = some .local) from e3)
          rcases h0 with rfl | ⟨_, h⟩
          · exact a2 e0
          · cases h
        · exact kd x _ e3 (.inl rfl)
        · exact kd x _ e3 (.inr rfl)
      have hout := ck.fre _ hfree rfl
      obtain ⟨m, hn, hl⟩ := I.loc
      obtain ⟨u, r, l⟩ := hl i x v a1 e4 (.inr hout)
      refine ⟨u, r, .inr ⟨?_, ?_⟩⟩
      · rcases e3 with e3 | e3 | e3
        · exfalso
          obtain ⟨k0, e0, h0⟩ := lookup_relabel (env := X.env) (show ((scope.names.map fun (n, k) => if (k == NameKind.free && X.env.scope.kind == .function && X.env.kindOf n == some .cell) then (n, NameKind.cell) else (n, k)).lookup x = some .local) from e3)
          rcases h0 with rfl | ⟨_, h⟩
          · exact a2 e0
          · cases h
        · exact .inl e3
        · exact .inr e3
      · rcases l with ⟨l1, _⟩ | ⟨_, c, e, ⟨oc, hoc, hd⟩⟩
        · exfalso
          have l1' : X.env.scope.names.lookup x = some .local := l1
          rcases hout with h | h
          · have h' : X.env.scope.names.lookup x = some .cell := h
            rw [l1'] at h'; cases h'
          · have h' : X.env.scope.names.lookup x = some .free := h
            rw [l1'] at h'; cases h'
        · obtain ⟨c', e'⟩ := clOf_has (cells := X.env.cells) (names := scope.names) (acc := []) x (.inl hfree)
          have := clS x c' e'
          rw [e] at this
          obtain rfl := Option.some.inj this
          exact ⟨c, e', ⟨oc, hk _ _ hoc, hd⟩⟩
  · intro x c e
    obtain ⟨v, o, ho, hd⟩ := I.cell x c (clS x c e)
    exact ⟨v, o, hk _ _ ho, hd⟩
  · intro x c e
    exact I.freeC x c (clS x c e)
  · intro p hp
    obtain ⟨e, n, ne, nf, d⟩ := I.pin p hp
    refine ⟨hk _ _ e, n, Nat.ne_of_lt (Heap.lt_size e), fun z => ?_, d⟩
    rcases List.mem_cons.mp (I.stkSub p.1 z) with z | z
    · exact ne z
    · exact nf z
  · show (sub ix σ).length = N'.length
    unfold sub
    rw [List.length_map]
    exact ck.len.symm
end BF
set_option Elab.async false
set_option linter.all false
set_option maxRecDepth 100000
set_option maxHeartbeats 4000000
namespace BF
open PySem PySem.Spec L2
theorem compLoop_any {prog : Program} {w : World} {A : Around} {R : Result → Shared → Prop} {s : Shared} {elt target iter : Expr} {scope : Scope} {pos : Pos} {it acc : Value} {env : Env} (I : Nat → Shared → Prop)
    (turn : ∀ n s, I n s → wpAny (model prog w) A (pyNext it) (fun r s₁ => match r with
      | none => R (.ok .next) s₁
      | some v => wpAny (model prog w) A (letOwnedTupleGo target it v) (fun _ s₁' => wpAny (model prog w) A (assign target env v) (fun _ s₂ => wpAny (model prog w) A (eval elt env) (fun x s₃ =>
          wpAny (model prog w) A (call (.builtin "list.append") [acc, x]) (fun _ s₄ => ∃ m, m < n ∧ I m s₄) (notedBy (model prog w) A env fun e s' => R (.error e) s') s₃)
          (notedBy (model prog w) A env fun e s' => R (.error e) s') s₂) (notedBy (model prog w) A env fun e s' => R (.error e) s') s₁') (notedBy (model prog w) A env fun e s' => R (.error e) s') s₁) (notedBy (model prog w) A env fun e s' => R (.error e) s') s)
    (n : Nat) (h : I n s) :
    codeAny (model prog w) A (.compLoop (.ListComp elt [⟨target, iter, [], 0⟩] scope pos) 0 it acc env) R s := by
  refine codeAny_loop rfl I (fun n s hI => ?_) n h
  show wpAny _ _ ((compTurn (.ListComp elt [⟨target, iter, [], 0⟩] scope pos) 0 it acc env).onRaise (fun x => do noteFrame x env; theTreesLotGoes x)) _ _ s
  refine wpAny_noted ?_
  rw [compTurn_list1]
  refine wpAny_bind (wpAny_standAt (wpAny_bind (wpAny_mono (turn n s hI) (fun r s₁ h₁ => ?_) fun _ _ h' => h')))
  cases r with
  | none => exact wpAny_pure h₁
  | some v =>
    refine wpAny_bind (wpAny_mono h₁ (fun _ s₁' h₁' => ?_) fun _ _ h' => h')
    exact wpAny_bind (wpAny_mono h₁' (fun _ s₂ h₂ => wpAny_bind (wpAny_bind (wpAny_mono h₂ (fun x s₃ h₃ => wpAny_bind (wpAny_mono h₃
      (fun _ s₄ h₄ => wpAny_pure (wpAny_pure ⟨rfl, h₄⟩)) fun _ _ h' => h')) fun _ _ h' => h'))) fun _ _ h' => h')
section
variable {X : Cx} {pins : List (Addr × Obj)} {σ σ' : L2.St} {H H' : Hp} {s s' : Shared} {scope : Scope} {fp : List Addr} {N' : List Str} {ix : List (Option Nat)} {E : Value → Shared → Prop}
theorem fpOk_c {H2 : Hp} {b : Addr} (I : Inv X pins σ H s) (hfl : b < s.heap.objs.size) (hb : b ∈ fp) (hf : FpOk X pins H b) (hn : H2 b = none) (ck : CompOk X.N X.env.scope scope N' ix) : FpOk (Xc X scope s.heap.objs.size s H fp N' E) pins H2 b := by
  obtain ⟨f0, f1, f2, f3, f4, f5⟩ := hf
  have hclos : ∀ x ∈ scope.names, x.2 = .free → ∃ c, X.env.cells.lookup x.1 = some c := fun x hx hfr => I.ok.has x.1 (ck.fre x hx hfr)
  refine ⟨hn, Nat.ne_of_lt hfl, fun z => ?_, .inl hb, fun x c e => f4 x c (clOf_sound hclos (fun n c e => by simp at e) x c e), f5⟩
  rcases List.mem_cons.mp (I.stkSub b z) with z | z
  · exact f1 z
  · exact f2 z
theorem comp_back {pins' : List (Addr × Obj)} {h'' : Heap} (I : Inv X pins σ H s) (hf : ∀ b ∈ fp, FpOk X pins H b) (I' : Inv (Xc X scope s.heap.objs.size s H fp N' E) pins' σ' H' s') (sb : Heap.SameBut s.heap.objs.size s'.heap h'') : Inv X pins σ H' { s' with heap := h'' } := by
  have low : ∀ {b : Addr} {o : Obj}, s.heap.get? b = some o → b ≠ s.heap.objs.size := fun e => Nat.ne_of_lt (Heap.lt_size e)
  have u := I'.base
  have u' : Un (frs X.stack) fp H H' s.heap h'' := by
    refine ⟨fun b o e n h1 h2 => (sb.2 b (low e)).trans (u.keep b o e n h1 h2), fun b o e n h1 h2 => ?_, u.free, fun b o e h => ?_, u.tups, u.frzs, u.tbls⟩
    · obtain ⟨sl, q⟩ := u.slot b o e n h1 h2
      exact ⟨sl, (sb.2 b (low e)).trans q⟩
    · obtain ⟨o', q⟩ := u.there b o e h
      exact ⟨o', (sb.2 b (low e)).trans q⟩
  have hfree : H' s.heap.objs.size = none := I'.free
  refine I.call' (s' := { s' with heap := h'' }) (ch := fp) I'.os u' (fun b o e => ?_) I'.bare fun b hb => ?_
  · have nb : ∀ c u, H' c = some u → c ≠ s.heap.objs.size := fun c u e z => by rw [z, hfree] at e; cases e
    refine (I'.hok b o e).stay (fun c v hc q => (sb.2 c ?_).trans q) (fun _ q => q) fun _ _ q => q
    rcases hc with z | z
    · rw [z]; exact nb b o e
    · exact nb c _ z
  · obtain ⟨_, f1, _, f3, f4, f5⟩ := hf b hb
    exact ⟨f3, f1, f4, f5⟩
end
def tCompW (J : It) (g : TG) (te : TE) (ix : List (Option Nat)) (σ : L2.St) (H1 : Hp) (D : Addr) (Q : Hp → Prop) : Prop :=
  ∃ W : Nat → Nat → Hp → Prop, (∃ m, W 0 m (upd H1 D (.lst []))) ∧ ∀ i m H2, W i m H2 →
    (J.stop i H2 ∧ Q H2) ∨ (J.go i H2 ∧ ∀ x H3, J.yld i H2 x H3 → g x (sub ix σ) H3 fun σ4 H4 => (∀ (j : Nat) v, (sub ix σ)[j]? = some (some v) → σ4[j]? = some (some v)) ∧ te σ4 H4 fun y H5 => ∃ ys, H5 D = some (.lst ys) ∧ ys.length < sizeLine ∧ ∃ m', m' < m ∧ W (i + 1) m' (upd H5 D (.lst (ys ++ [y]))))
abbrev XF : Value → Shared → Prop := fun _ _ => False
theorem comp_block {X : Cx} {pins : List (Addr × Obj)} {σ : L2.St} {H : Hp} {s : Shared} {elt iter tg : Expr} {scope : Scope} {pos : Pos} {g : TG} {te : TE} {N' : List Str} {ix : List (Option Nat)} {RR : Value → Addr → Result → Shared → Prop} {E : Value → Shared → Prop} {it : Addr} {fp : List Addr} {tn : Nat → Heap → Prop} {J : It} {Q : Addr → Hp → Prop}
    (hc : X.calm = true) (ck : CompOk X.N X.env.scope scope N' ix) (hg : ∀ C s H fp, PG (Xc X scope C s H fp N' XF) tg g) (he : ∀ C s H fp, PE (Xc X scope C s H fp N' XF) elt te)
    (I : Inv X pins σ H s) (T : Turn X.prog X.w X.K tg J fp it tn) (st : tn 0 s.heap) (hf : ∀ b ∈ fp, FpOk X pins H b) (hR : ∀ D, H D = none → tCompW J g te ix σ H D (Q D))
    (hRR : ∀ D C s' H', FpOk X pins H' C → X.env.locals ≠ C → s'.os = s.os → (∃ m, s'.heap.Ns C m) → (∀ h'', Heap.SameBut C s'.heap h'' → Inv X pins σ H' { s' with heap := h'' }) → Q D H' → RR (.ref D) C (.ok .next) s') :
    wpAny (model X.prog X.w) X.A (newList []) (fun acc s₃ => wpAny (model X.prog X.w) X.A (newFunctionEnv scope X.env.globals (clOf X.env.cells scope.names []) [] X.env.qual none .none (some X.env)) (fun cenv s₄ =>
      codeAny (model X.prog X.w) X.A (.compStart (.ListComp elt [⟨tg, iter, [], 0⟩] scope pos) 0 (.ref it) acc { cenv with scope := relabel scope X.env }) (RR acc cenv.locals) s₄) E s₃) E s := by
  refine wpAny_newObj_type (wpAny_newFunctionEnv ck.cell (by intro y hy; simp at hy) (fun h₁ hns₁ hsb₁ => ?_) ck.kind)
  have I3 : Inv X pins σ (upd H s.heap.objs.size (.lst [])) { s with heap := s.heap.push { cls := .type "list", data := .seq ([] : List Value).toArray }, toks := s.toks } := I.lnew (its := []) (ys := []) .nil (by simp)
  have hfl : ∀ b ∈ fp, b < s.heap.objs.size := fun b hb => by
    obtain ⟨o, e, _⟩ := T.obj 0 _ st b hb
    exact Heap.lt_size e
  have hf3 : ∀ b ∈ fp, FpOk X pins (upd H s.heap.objs.size (.lst [])) b := fun b hb => by
    obtain ⟨f0, fr⟩ := hf b hb
    exact ⟨by rw [upd_ne (Nat.ne_of_lt (hfl b hb))]; exact f0, fr⟩
  obtain ⟨W, ⟨m0, w0⟩, turn⟩ := hR s.heap.objs.size I.fresh
  generalize eD : s.heap.objs.size = D at *
  have e3 : ({ s with heap := s.heap.push { cls := .type "list", data := .seq ([] : List Value).toArray }, toks := s.toks } : Shared) = { s with heap := s.heap.push { cls := .type "list", data := .seq ([] : List Value).toArray } } := rfl
  rw [e3] at I3
  generalize es3 : ({ s with heap := s.heap.push { cls := .type "list", data := .seq ([] : List Value).toArray } } : Shared) = s3 at *
  have os3 : s3.os = s.os := by rw [← es3]
  have hp3 : s3.heap = s.heap.push { cls := .type "list", data := .seq ([] : List Value).toArray } := by rw [← es3]
  have hfl3 : ∀ b ∈ fp, b < s3.heap.objs.size := fun b hb => by
    rw [hp3, Heap.size_push]; exact Nat.lt_succ_of_lt (by rw [eD]; exact hfl b hb)
  have hns : ∃ m, h₁.Ns s3.heap.objs.size m := ⟨_, hns₁⟩
  have hk : ∀ b o, s3.heap.get? b = some o → h₁.get? b = some o := fun b o e => hsb₁.extBut b o (Nat.ne_of_lt (Heap.lt_size e)) (Heap.get?_push_of_some _ e)
  have I4 : ∀ t, Inv (Xc X scope s3.heap.objs.size s3 (upd H D (.lst [])) fp N' XF) pins (sub ix σ) (upd H D (.lst [])) { s3 with heap := h₁, toks := t } := fun t => inv_comp I3 hf3 hfl3 ck hns hk
  have st4 : tn 0 h₁ := T.keep _ _ _ st fun b hb o e => hk b o (by rw [hp3]; exact Heap.get?_push_of_some _ e)
  have loop : ∀ s₄ : Shared, s₄ = { s3 with heap := h₁, toks := s3.toks + ([] : List (Str × Value)).length } →
      codeAny (model X.prog X.w) X.A (.compLoop (.ListComp elt [⟨tg, iter, [], 0⟩] scope pos) 0 (.ref it) (.ref D) (Xc X scope s3.heap.objs.size s3 (upd H D (.lst [])) fp N' XF).env) (RR (.ref D) s3.heap.objs.size) s₄ := by
    rintro s₄ rfl
    have stat : ∀ {H2 : Hp}, (∀ b ∈ fp, H2 b = none) → ∀ b ∈ fp, FpOk (Xc X scope s3.heap.objs.size s3 (upd H D (.lst [])) fp N' XF) pins H2 b := fun hn b hb => fpOk_c I3 (hfl3 b hb) hb (hf3 b hb) (hn b hb) ck
    refine compLoop_any (fun n s' => ∃ i H', Inv (Xc X scope s3.heap.objs.size s3 (upd H D (.lst [])) fp N' XF) pins (sub ix σ) H' s' ∧ tn i s'.heap ∧ (∀ b ∈ fp, H' b = none) ∧ W i n H') ?_ m0 ⟨0, _, I4 _, st4, fun b hb => (hf3 b hb).1, w0⟩
    rintro n s5 ⟨i, H5, I5, st5, fr5, w5⟩
    rcases turn i n H5 w5 with ⟨stop, qn⟩ | ⟨go, step⟩
    · refine thn (T.done (Xc X scope s3.heap.objs.size s3 (upd H D (.lst [])) fp N' XF) rfl rfl rfl hc i pins s5 _ H5 _ I5 (stat fr5) st5 stop) fun r s6 ⟨hr, I6⟩ => ?_
      subst hr
      obtain ⟨m6, hn6, _⟩ := I6.loc
      exact hRR D s3.heap.objs.size s6 H5 (I3.fpOk (Nat.le_refl _) I6.free) (Nat.ne_of_lt I3.lt) (I6.os.trans os3) ⟨m6, hn6⟩ (fun h'' sb => comp_back I3 hf3 I6 sb) qn
    · refine thn (T.item (Xc X scope s3.heap.objs.size s3 (upd H D (.lst [])) fp N' XF) rfl rfl rfl hc i pins s5 _ H5 _ I5 (stat fr5) st5 go) fun r s6 ⟨u, hr, h6⟩ => ?_
      subst hr
      refine thn h6 fun _ s7 ⟨x, H7, I7, r7, y7, st7, fr7⟩ => ?_
      have I7' := I7.pinned (stat fr7) (T.obj _ _ st7)
      refine wpAny_mono (hg _ _ _ _ _ s7 (sub ix σ) H7 x u _ I7' r7 (step x H7 y7)) (fun _ s8 ⟨σ8, H8, I8, wk8, q8⟩ => ?_) fun _ _ f => f.elim
      refine wpAny_mono (he _ _ _ _ _ s8 σ8 H8 _ I8 q8) (fun v9 s9 ⟨y, H9, I9, r9, q9⟩ => ?_) fun _ _ f => f.elim
      obtain ⟨ys, hD, hz, m', hm, w'⟩ := q9
      have ap := mt_append (X := Xc X scope s3.heap.objs.size s3 (upd H D (.lst [])) fp N' XF) _ s9 σ8 H9 (.ref D) [y] (.ref D) [v9] (fun _ H10 => W (i + 1) m' H10) I9 rfl (.cons r9 .nil) ⟨D, ys, y, rfl, rfl, hD, hz, w'⟩
      refine wpAny_mono ap (fun u10 s10 ⟨z10, H10, I10, _, w10⟩ => ?_) fun _ _ f => f.elim
      refine ⟨m', hm, i + 1, H10, ?_, T.keep _ _ _ st7 fun b hb o e => (I10.pin (b, o) (List.mem_append_right _ (List.mem_append_right _ (mem_pinsAt hb e)))).1, fun b hb => ?_, w10⟩
      · refine I10.unpinned.weak ?_ fun j v e => ?_
        · exact (I5.len).trans I10.len.symm
        · exact wk8 j v e
      · obtain ⟨o, e, d⟩ := T.obj _ _ st7 b hb
        exact (I10.pin (b, o) (List.mem_append_right _ (List.mem_append_right _ (mem_pinsAt hb e)))).2.1
  exact codeAny_compStart_list (loop _ rfl) (T.self _ 0 _ _ _ st4 (loop _ rfl))
def tComp (wi : TI) (g : TG) (te : TE) (ix : List (Option Nat)) : TE := fun σ H Q => wi σ H fun J H1 => ∀ D, H1 D = none → tCompW J g te ix σ H1 D fun H2 => Q (.ref D) H2
theorem hclos_of {X : Cx} {pins : List (Addr × Obj)} {σ : L2.St} {H : Hp} {s : Shared} {scope : Scope} {N' : List Str} {ix : List (Option Nat)} (I : Inv X pins σ H s) (ck : CompOk X.N X.env.scope scope N' ix) : closureFor scope X.env = pure (clOf X.env.cells scope.names []) :=
  closure_of fun x hx hfr => I.ok.has x.1 (ck.fre x hx hfr)
theorem pe_comp {X : Cx} {elt iter tg : Expr} {scope : Scope} {pos : Pos} {wi : TI} {g : TG} {te : TE} {N' : List Str} {ix : List (Option Nat)} (hc : X.calm = true) (ck : CompOk X.N X.env.scope scope N' ix) (hi : PI X tg iter wi)
    (hg : ∀ C s H fp, PG (Xc X scope C s H fp N' XF) tg g) (he : ∀ C s H fp, PE (Xc X scope C s H fp N' XF) elt te) (hs : ∀ x, foldedSetIterable iter X.env x = pure x := by intro _; rfl) :
    PE X (.ListComp elt [⟨tg, iter, [], 0⟩] scope pos) (tComp wi g te ix) := by
  intro pins s σ H Q I h
  rw [eval_ListComp]
  refine wpAny_comprehension_free (use := none) rfl hs (hclos_of I ck) ck.kind ck.loc (thn (hi pins s σ H _ I h) fun v s1 h1 => thn h1 fun itv s2 h2 => ?_)
  obtain ⟨it, fp, tn, J, H2, e, I2, T, st2, f2, q2⟩ := h2
  subst e
  refine comp_block (RR := fun acc C => compPost (model X.prog X.w) X.A X.xe none (EP X pins σ Q) acc C) hc ck hg he I2 T st2 f2 q2 fun D C s' H' _ _ _ hm hI q => ?_
  obtain ⟨m, hn⟩ := hm
  exact ⟨m, hn, fun h' sb => ⟨.ref D, H', hI h' sb, rfl, q⟩⟩
theorem ps_setComp {X : Cx} {elt iter tg : Expr} {scope : Scope} {pos spos pos' : Pos} {wi : TI} {g : TG} {te : TE} {N' : List Str} {ix : List (Option Nat)} {i : Nat} {y : Str} (hc : X.calm = true) (ck : CompOk X.N X.env.scope scope N' ix) (hi : PI X tg iter wi)
    (hg : ∀ C s H fp, PG (Xc X scope C s H fp N' XF) tg g) (he : ∀ C s H fp, PE (Xc X scope C s H fp N' XF) elt te) (hN : X.N.Nodup) (hiy : X.N[i]? = some y) (hy : Loc X.env.scope y)
    (hsw : swapsWith (.ListComp elt [⟨tg, iter, [], 0⟩] scope pos) (some (.Name y pos')) spos.line X.env = pure true := by rfl) (hs : ∀ x, foldedSetIterable iter X.env x = pure x := by intro _; rfl)
    (hf : X.fn y = true ∨ X.env.scope.names.lookup y = some .local := by first | exact .inl rfl | exact .inr rfl | assumption) :
    PS X (.Assign [.Name y pos'] (.ListComp elt [⟨tg, iter, [], 0⟩] scope pos) spos) (tAsg (tComp wi g te ix) (gName i)) := by
  intro pins s σ H D I h
  rw [exec_Assign_Name_used _ _ _ _ hsw]
  refine wpAny_bind (wpAny_standAt (wpAny_bind ?_))
  show wpAny _ X.A (do let _ ← comprehension (.ListComp elt [⟨tg, iter, [], 0⟩] scope pos) scope X.env _ (newList []) false (eval iter X.env) (some (assign (.Name y pos') X.env))) _ _ s
  refine wpAny_bind (wpAny_mono (wpAny_comprehension_free (use := some (assign (.Name y pos') X.env)) (Q := fun _ s' => SP X pins D .next s') rfl hs (hclos_of I ck) ck.kind ck.loc
    (thn (hi pins s σ H _ I h) fun v s1 h1 => thn h1 fun itv s2 h2 => ?_)) (fun _ s' hq => wpAny_pure (wpAny_pure hq)) fun _ _ e => e)
  obtain ⟨it, fp, tn, J, H2, e, I2, T, st2, f2, q2⟩ := h2
  subst e
  refine comp_block (RR := fun acc C => compPost (model X.prog X.w) X.A X.xe (some (assign (.Name y pos') X.env)) (fun _ s' => SP X pins D .next s') acc C) hc ck hg he I2 T st2 f2 q2 fun Dd C s' H' fC hLC _ hm hI q => ?_
  obtain ⟨m, hn⟩ := hm
  show wpAny _ X.A (assign (.Name y pos') X.env (.ref Dd)) _ _ _
  have I0 : Inv X pins σ H' s' := hI s'.heap (.refl ..)
  refine wpAny_assign_Name (store_ok2 (v := .ref Dd) I0 hN hiy hy rfl (fun s2 I2 ⟨a, sb2, ha⟩ => ?_) hf)
  obtain ⟨f0, f1, _, f3, f4, f5⟩ := fC
  have hCa : C ≠ a := by
    rcases ha with rfl | ha
    · exact Ne.symm hLC
    · exact Ne.symm (f4 _ _ ha)
  refine ⟨m, hn.sameBut sb2 hCa, fun h' sb => ?_⟩
  exact ⟨_, H', I2.turned (t' := s2.toks) (fun b o hb e => (sb.2 b hb).trans e) f0 f1 f3 f4 f5, q⟩
end BF
set_option Elab.async false
set_option linter.all false
set_option maxRecDepth 100000
set_option maxHeartbeats 4000000
namespace BF
open PySem PySem.Spec L2
noncomputable def okB (p : Prop) : Bool := @decide p (Classical.propDecidable p)
theorem okB_iff {p : Prop} : okB p = true ↔ p := by unfold okB; exact @decide_eq_true_iff p (Classical.propDecidable p)
theorem okB_of {p : Prop} (h : p) : okB p = true := okB_iff.mpr h
noncomputable section
def dt (f : EF) : List Sl → Option Dm := fun δ => (f δ).map Rs.dat
theorem fz_some {f : EF} {δ : List Sl} {r : Rs} (e : f δ = some r) : fz f δ = some r.fz := by unfold fz; rw [e]; rfl
theorem dt_some {f : EF} {δ : List Sl} {d : Dm} (e : dt f δ = some d) : ∃ r, f δ = some r ∧ r.dat = d := by
  unfold dt at e
  cases h : f δ with
  | none => rw [h] at e; cases e
  | some r => rw [h] at e; exact ⟨r, rfl, Option.some.inj e⟩
theorem run1 {K : PySem.W.Frag} {B G0 G : Hp} {δ : List Sl} {σ : L2.St} {H : Hp} {r : Rs} {Q R : VK} {f : EF} {ra : Rs} (k : KD K B G0 G δ σ H r Q) (e : f δ = some ra)
    (h : ∀ x G1 H1, KD K B G0 G1 δ σ H1 r Q → Gr G H G1 H1 → RsR K H G1 H1 δ σ ra.fz x → R x H1) : tD K (fz f) σ H R :=
  ⟨B, G0, G, δ, ra.fz, k.sim, fz_some e, fun x G1 H1 S1 g1 q1 => h x G1 H1 (k.step S1 g1) g1 q1⟩
section
variable {X : Cx}
def fVar (i : Nat) : EF := fun δ => match δ[i]? with
  | some (.sh d) => some (.sh d)
  | some (.ow ds) => some (.al i ds)
  | some (.so _ d) => some (.sh d)
  | some (.pt _ _ d) => some (.sh d)
  | _ => none
def fC (d : Dm) : EF := fun _ => some (.sh d)
def Dm.scal : Dm → Bool
  | .lst _ => false
  | .tup _ => false
  | _ => true
def vOf : Dm → V
  | .non => .non
  | .bl b => .bl b
  | .int i => .int i
  | .str x => .str x
  | _ => .non
theorem rep_scal {K : PySem.W.Frag} {G : Hp} {d : Dm} (h : d.scal = true) : Rep K G d (vOf d) := by
  cases d with
  | lst ds => exact absurd (show false = true from h) Bool.false_ne_true
  | tup ds => exact absurd (show false = true from h) Bool.false_ne_true
  | _ => unfold Rep; rfl
theorem pd_var (i : Nat) {x : Str} {pos : Pos} (hN : X.N[i]? = some x := by rfl) (hv : Vis X.env.scope x := by first | exact Or.inl rfl | exact Or.inr (Or.inl rfl) | exact Or.inr (Or.inr rfl))
    (hd : (x == ("__debug__" : Str)) = false := by decide +kernel) (hcd : (x == ("__classdict__" : Str)) = false := by decide +kernel) : PD X (.Name x pos) (fVar i) := by
  refine PE.imp (pe_var (i := i) hN hv hd hcd) fun σ H Q h => ?_
  obtain ⟨B, G0, G, δ, r, S, e, k⟩ := h
  unfold fVar at e
  cases q : δ[i]? with
  | none => rw [q] at e; cases e
  | some s =>
    rw [q] at e
    cases s with
    | un => cases e
    | sh d =>
      cases e
      obtain ⟨v, e1, e2⟩ := S.slot i _ q
      exact ⟨v, e1, k v G H S Gr.refl e2⟩
    | ow ds =>
      cases e
      obtain ⟨p, xs, e1, _⟩ := S.slot i _ q
      exact ⟨.ref p, e1, k _ G H S Gr.refl ⟨q, e1⟩⟩
    | so C d =>
      cases e
      obtain ⟨v, e1, e2, z⟩ := S.slot i _ q
      exact ⟨v, e1, k v G H S Gr.refl (Rep.mono z e2)⟩
    | pt p kk d =>
      cases e
      obtain ⟨v, xs, e1, e2, _⟩ := S.slot i _ q
      exact ⟨v, e1, k v G H S Gr.refl e2⟩
    | xc C => cases e
theorem pd_int {i j pos} : PD X (.Constant (.int i) j pos) (fC (.int i)) := PE.imp pe_int fun σ H Q h => by
  obtain ⟨B, G0, G, δ, r, S, e, k⟩ := h
  cases e
  exact k _ G H S Gr.refl (rep_scal rfl)
theorem pd_bl {i j pos} : PD X (.Constant (.bool i) j pos) (fC (.bl i)) := PE.imp pe_bl fun σ H Q h => by
  obtain ⟨B, G0, G, δ, r, S, e, k⟩ := h
  cases e
  exact k _ G H S Gr.refl (rep_scal rfl)
theorem pd_str {i j pos} : PD X (.Constant (.str i) j pos) (fC (.str i)) := PE.imp pe_str fun σ H Q h => by
  obtain ⟨B, G0, G, δ, r, S, e, k⟩ := h
  cases e
  exact k _ G H S Gr.refl (rep_scal rfl)
theorem pd_non {j pos} : PD X (.Constant .none j pos) (fC .non) := PE.imp pe_non fun σ H Q h => by
  obtain ⟨B, G0, G, δ, r, S, e, k⟩ := h
  cases e
  exact k _ G H S Gr.refl (rep_scal rfl)
def op2 (o : Dm → Dm → Option Dm) (fa fb : EF) : EF := fun δ => (dt fa δ).bind fun a => (dt fb δ).bind fun b => (o a b).map .sh
def Op2 (K : PySem.W.Frag) (r : R2) (o : Dm → Dm → Option Dm) : Prop := ∀ x y H a b d Q, Rep K H a x → Rep K H b y → o a b = some d → d.scal = true ∧ (Q (vOf d) H → r x y H Q)
theorem op2_run {K : PySem.W.Frag} {r : R2} {o : Dm → Dm → Option Dm} {fa fb : EF} (h2 : Op2 K r o) {σ : L2.St} {H : Hp} {Q : VK} (h : tD K (op2 o fa fb) σ H Q) : tOp r (tD K (fz fa)) (tD K (fz fb)) σ H Q := by
  obtain ⟨B, G0, G, δ, r0, S, e, k⟩ := h
  obtain ⟨a, ea, e⟩ := Option.bind_eq_some_iff.mp e
  obtain ⟨b, eb, e⟩ := Option.bind_eq_some_iff.mp e
  obtain ⟨d, ed, e⟩ := Option.map_eq_some_iff.mp e
  subst e
  obtain ⟨ra, era, rfl⟩ := dt_some ea
  obtain ⟨rb, erb, rfl⟩ := dt_some eb
  refine run1 ⟨S, k⟩ era fun x G1 H1 k1 g1 q1 => run1 k1 erb fun y G2 H2 k2 g2 q2 => ?_
  have r1 := RsR.rep k2.sim (q1.mono (H' := H2) (B'' := H2) ra.fz_still g2.gg)
  have r2 := RsR.rep k2.sim q2
  rw [Rs.fz_dat] at r1 r2
  obtain ⟨sc, go⟩ := h2 x y H2 _ _ d Q r1 r2 ed
  exact go (k2.now (rep_scal sc))
theorem pd_op2 {op : Operator} {a b : Expr} {pos : Pos} {r : R2} {o : Dm → Dm → Option Dm} {fa fb : EF} (ho : OpR X (binaryOp op) r) (h2 : Op2 X.K r o) (ha : PD X a fa) (hb : PD X b fb) : PD X (.BinOp a op b pos) (op2 o fa fb) :=
  PE.imp (pe_op ho ha.fz hb.fz) fun _ _ _ h => op2_run h2 h
theorem pd_cmp {op : CmpOp} {a b : Expr} {pos : Pos} {r : R2} {o : Dm → Dm → Option Dm} {fa fb : EF} (ho : OpR X (compareOp op) r) (h2 : Op2 X.K r o) (ha : PD X a fa) (hb : PD X b fb) (hm : behindInMarks op b = false) : PD X (.Compare a [op] [b] pos) (op2 o fa fb) :=
  PE.imp (pe_cmpR ho ha.fz hb.fz hm) fun _ _ _ h => op2_run h2 h
def oI (C : Int → Int → Bool) (g : Int → Int → Dm) : Dm → Dm → Option Dm
  | .int i, .int j => if C i j then some (g i j) else none
  | _, _ => none
theorem oI_some {C : Int → Int → Bool} {g : Int → Int → Dm} {a b d : Dm} (e : oI C g a b = some d) : ∃ i j, a = .int i ∧ b = .int j ∧ C i j = true ∧ d = g i j := by
  unfold oI at e
  split at e
  · rename_i i j
    split at e
    · rename_i h; exact ⟨i, j, rfl, rfl, h, (Option.some.inj e).symm⟩
    · cases e
  · cases e
theorem op2_I {K : PySem.W.Frag} {Cp : Int → Int → Prop} {C : Int → Int → Bool} {g : Int → Int → Int} (hC : ∀ i j, C i j = true → Cp i j) : Op2 K (rI Cp fun i j => .int (g i j)) (oI C fun i j => .int (g i j)) := by
  intro x y H a b d Q ra rb e
  obtain ⟨i, j, rfl, rfl, hc, rfl⟩ := oI_some e
  unfold Rep at ra rb
  exact ⟨rfl, fun q => ⟨i, j, ra, rb, hC i j hc, q⟩⟩
theorem op2_I0 {K : PySem.W.Frag} {g : Int → Int → Int} : Op2 K (rI0 fun i j => .int (g i j)) (oI (fun _ _ => true) fun i j => .int (g i j)) := by
  intro x y H a b d Q ra rb e
  obtain ⟨i, j, rfl, rfl, hc, rfl⟩ := oI_some e
  unfold Rep at ra rb
  exact ⟨rfl, fun q => ⟨i, j, ra, rb, q⟩⟩
theorem op2_B0 {K : PySem.W.Frag} {g : Int → Int → Bool} : Op2 K (rI0 fun i j => .bl (g i j)) (oI (fun _ _ => true) fun i j => .bl (g i j)) := by
  intro x y H a b d Q ra rb e
  obtain ⟨i, j, rfl, rfl, hc, rfl⟩ := oI_some e
  unfold Rep at ra rb
  exact ⟨rfl, fun q => ⟨i, j, ra, rb, q⟩⟩
def oAdd := oI (fun _ _ => true) fun i j => .int (i + j)
def oSub := oI (fun _ _ => true) fun i j => .int (i - j)
def mulOk (a b : Int) : Bool := okB (IntMulOk a b)
def oMul := oI mulOk fun i j => .int (i * j)
def divOk (j : Int) : Bool := okB (0 < j ∧ j.natAbs.log2 < 9000)
def posOk (j : Int) : Bool := okB (0 < j)
def nnOk (j : Int) : Bool := okB (0 ≤ j)
def oDiv := oI (fun _ j => divOk j) fun i j => .int (i / j)
def oMod := oI (fun _ j => posOk j) fun i j => .int (i % j)
def powOk (i j : Int) : Bool := okB (0 ≤ j ∧ j ≤ 1000000 ∧ i.natAbs < 2 ^ 64)
def oPow := oI powOk fun i j => .int (i ^ j.toNat)
def oShl := oI powOk fun i j => .int (i * 2 ^ j.toNat)
def oShr := oI (fun _ j => nnOk j) fun i j => .int (i / 2 ^ j.toNat)
def oAnd := oI (fun _ _ => true) fun i j => .int (Builtin.bitAnd i j)
def oOr := oI (fun _ _ => true) fun i j => .int (Builtin.bitOr i j)
def oXor := oI (fun _ _ => true) fun i j => .int (Builtin.bitXor i j)
def oLt := oI (fun _ _ => true) fun i j => .bl (decide (i < j))
def oLe := oI (fun _ _ => true) fun i j => .bl (decide (i ≤ j))
def oGt := oI (fun _ _ => true) fun i j => .bl (decide (j < i))
def oGe := oI (fun _ _ => true) fun i j => .bl (decide (j ≤ i))
section
variable {a b : Expr} {pos : Pos} {fa fb : EF}
theorem pd_add (ha : PD X a fa) (hb : PD X b fb) : PD X (.BinOp a .Add b pos) (op2 oAdd fa fb) := pd_op2 op_add op2_I0 ha hb
theorem pd_sub (ha : PD X a fa) (hb : PD X b fb) : PD X (.BinOp a .Sub b pos) (op2 oSub fa fb) := pd_op2 op_sub op2_I0 ha hb
theorem pd_mul (ha : PD X a fa) (hb : PD X b fb) : PD X (.BinOp a .Mult b pos) (op2 oMul fa fb) := pd_op2 op_mulB (op2_I fun i j h => okB_iff.mp h) ha hb
theorem pd_div (ha : PD X a fa) (hb : PD X b fb) : PD X (.BinOp a .FloorDiv b pos) (op2 oDiv fa fb) := pd_op2 op_fdivB (op2_I fun i j h => okB_iff.mp h) ha hb
theorem pd_mod (ha : PD X a fa) (hb : PD X b fb) : PD X (.BinOp a .Mod b pos) (op2 oMod fa fb) := pd_op2 op_mod (op2_I fun i j h => okB_iff.mp h) ha hb
theorem pd_pow (ha : PD X a fa) (hb : PD X b fb) : PD X (.BinOp a .Pow b pos) (op2 oPow fa fb) := pd_op2 op_pow (op2_I fun i j h => okB_iff.mp h) ha hb
theorem pd_shl (ha : PD X a fa) (hb : PD X b fb) : PD X (.BinOp a .LShift b pos) (op2 oShl fa fb) := pd_op2 op_shl (op2_I fun i j h => okB_iff.mp h) ha hb
end
def oEq (neg : Bool) : Dm → Dm → Option Dm := fun a b => if okEq a && okEq b then some (.bl (if neg then !eqD a b else eqD a b)) else none
theorem op2_eq {K : PySem.W.Frag} (neg : Bool) : Op2 K (rEqD K neg) (oEq neg) := by
  intro x y H a b d Q ra rb e
  unfold oEq at e
  by_cases hc : (okEq a && okEq b) = true
  · rw [if_pos hc] at e; cases e
    rw [Bool.and_eq_true] at hc
    exact ⟨rfl, fun q => ⟨a, b, ra, rb, hc.1, hc.2, q⟩⟩
  · rw [if_neg hc] at e; cases e
theorem pd_eq {a b : Expr} {pos : Pos} {fa fb : EF} (hu : X.A.units + 64 < cLine) (ha : PD X a fa) (hb : PD X b fb) : PD X (.Compare a [.Eq] [b] pos) (op2 (oEq false) fa fb) := pd_cmp (op_eqD hu) (op2_eq false) ha hb (nomark _)
def Dm.int? : Dm → Option Int
  | .int i => some i
  | _ => none
theorem int_some {d : Dm} {i : Int} (e : d.int? = some i) : d = .int i := by
  cases d <;> first | (cases e; done) | (have e' := Option.some.inj e; rw [e'])
def fNeg (fa : EF) : EF := fun δ => (dt fa δ).bind fun a => a.int?.map fun i => .sh (.int (-i))
theorem pd_neg {a : Expr} {pos : Pos} {fa : EF} (ha : PD X a fa) : PD X (.UnaryOp .USub a pos) (fNeg fa) := PE.imp (pe_un un_neg ha.fz) fun σ H Q h => by
  obtain ⟨B, G0, G, δ, r0, S, e, k⟩ := h
  obtain ⟨a, ea, e⟩ := Option.bind_eq_some_iff.mp e
  obtain ⟨ra, era, rfl⟩ := dt_some ea
  refine run1 ⟨S, k⟩ era fun x G1 H1 k1 g1 q1 => ?_
  have r1 := RsR.rep k1.sim q1
  obtain ⟨i, ei, e⟩ := Option.map_eq_some_iff.mp e
  subst e
  rw [Rs.fz_dat, int_some ei] at r1
  unfold Rep at r1
  exact ⟨_, r1, k1.now (rep_scal rfl)⟩
def Dm.lst? : Dm → Option (List Dm)
  | .lst ds => some ds
  | _ => none
theorem lst_some {d : Dm} {ds : List Dm} (e : d.lst? = some ds) : d = .lst ds := by
  cases d <;> first | (cases e; done) | (have e' := Option.some.inj e; rw [e'])
def fCat (fa fb : EF) : EF := fun δ => (dt fa δ).bind fun a => (dt fb δ).bind fun b => a.lst?.bind fun xs => b.lst?.bind fun ys => if xs.length + ys.length ≤ sizeLine then some (.ow (xs ++ ys)) else none
theorem pd_cat {a b : Expr} {pos : Pos} {fa fb : EF} (ha : PD X a fa) (hb : PD X b fb) : PD X (.BinOp a .Add b pos) (fCat fa fb) := PE.imp (pe_op op_catQ ha.fz hb.fz) fun σ H Q h => by
  obtain ⟨B, G0, G, δ, r0, S, e, k⟩ := h
  obtain ⟨a, ea, e⟩ := Option.bind_eq_some_iff.mp e
  obtain ⟨b, eb, e⟩ := Option.bind_eq_some_iff.mp e
  obtain ⟨ra, era, rfl⟩ := dt_some ea
  obtain ⟨rb, erb, rfl⟩ := dt_some eb
  obtain ⟨xs, ex, e⟩ := Option.bind_eq_some_iff.mp e
  obtain ⟨ys, ey, e⟩ := Option.bind_eq_some_iff.mp e
  refine run1 ⟨S, k⟩ era fun x G1 H1 k1 g1 q1 => run1 k1 erb fun y G2 H2 k2 g2 q2 => ?_
  by_cases hc : xs.length + ys.length ≤ sizeLine
  · rw [if_pos hc] at e; cases e
    obtain ⟨l, vs, rfl, hl, rl⟩ := RsR.lst k2.sim (q1.mono (H' := H2) (B'' := H2) ra.fz_still g2.gg) (by rw [Rs.fz_dat]; exact lst_some ex)
    obtain ⟨l', vs', rfl, hl', rl'⟩ := RsR.lst k2.sim q2 (by rw [Rs.fz_dat]; exact lst_some ey)
    exact ⟨l, l', vs, vs', rfl, rfl, hl, hl', by rw [← rl.length, ← rl'.length]; exact hc, fun p hp => k2.newL (rl.append rl') hp⟩
  · rw [if_neg hc] at e; cases e
def repOk (k : Nat) (n : Int) : Bool := okB (-(2 ^ 63) ≤ n ∧ n < 2 ^ 63 ∧ k * n.toNat ≤ sizeLine)
def fRep (fa fb : EF) : EF := fun δ => (dt fa δ).bind fun a => (dt fb δ).bind fun b => a.lst?.bind fun xs => b.int?.bind fun n => if repOk xs.length n then some (.ow (List.replicate n.toNat xs).flatten) else none
def ixD : Dm → Int → Option Dm
  | .lst ds, i => atI ds i
  | .tup ds, i => atI ds i
  | .str z, i => if z.length ≤ sizeLine then (atI z.cps.toList i).map fun c => .str ⟨#[c]⟩ else none
  | _, _ => none
def fIx (fa fb : EF) : EF := fun δ => (dt fa δ).bind fun a => (dt fb δ).bind fun b => b.int?.bind fun i => (ixD a i).map .sh
theorem reps_at {K : PySem.W.Frag} {G : Hp} {ds : List Dm} {xs : List V} {i : Int} {d : Dm} (h : Reps K G ds xs) (e : atI ds i = some d) : ∃ v, atI xs i = some v ∧ Rep K G d v := by
  unfold atI at e ⊢
  rw [← h.length]
  cases q : ixN ds.length i with
  | none => rw [q] at e; cases e
  | some j =>
    rw [q] at e
    exact h.get e
theorem pd_ix {a b : Expr} {pos : Pos} {fa fb : EF} (ha : PD X a fa) (hb : PD X b fb) (hs : PlainIx b := by intro _ _; rfl) : PD X (.Subscript a b pos) (fIx fa fb) := PE.imp (pe_ix ix_seq ha.fz hb.fz hs) fun σ H Q h => by
  obtain ⟨B, G0, G, δ, r0, S, e, k⟩ := h
  obtain ⟨a, ea, e⟩ := Option.bind_eq_some_iff.mp e
  obtain ⟨b, eb, e⟩ := Option.bind_eq_some_iff.mp e
  obtain ⟨ra, era, rfl⟩ := dt_some ea
  obtain ⟨rb, erb, rfl⟩ := dt_some eb
  obtain ⟨i, ei, e⟩ := Option.bind_eq_some_iff.mp e
  obtain ⟨d, ed, e⟩ := Option.map_eq_some_iff.mp e
  subst e
  refine run1 ⟨S, k⟩ era fun x G1 H1 k1 g1 q1 => run1 k1 erb fun y G2 H2 k2 g2 q2 => ?_
  have r2 := RsR.rep k2.sim q2
  rw [Rs.fz_dat, int_some ei] at r2
  unfold Rep at r2
  have q1' := q1.mono (H' := H2) (B'' := H2) ra.fz_still g2.gg
  cases hd : ra.dat with
  | non => rw [hd] at ed; cases ed
  | bl b => rw [hd] at ed; cases ed
  | int j => rw [hd] at ed; cases ed
  | str z =>
    rw [hd] at ed
    have r1 := RsR.rep k2.sim q1'
    rw [Rs.fz_dat, hd] at r1
    unfold Rep at r1
    have ed' : (if z.length ≤ sizeLine then (atI z.cps.toList i).map fun c => Dm.str ⟨#[c]⟩ else none) = some d := ed
    by_cases hz : z.length ≤ sizeLine
    · rw [if_pos hz] at ed'
      obtain ⟨c, ec, ed'⟩ := Option.map_eq_some_iff.mp ed'
      subst ed'
      exact .inr (.inr ⟨z, i, c, r1, r2, hz, ec, k2.now (rep_scal rfl)⟩)
    · rw [if_neg hz] at ed'; cases ed'
  | lst ds =>
    rw [hd] at ed
    obtain ⟨l, vs, rfl, hl, rl⟩ := RsR.lst k2.sim q1' (by rw [Rs.fz_dat]; exact hd)
    obtain ⟨v, ev, rv⟩ := reps_at rl ed
    exact .inl ⟨l, vs, i, v, rfl, r2, hl, ev, k2.now rv⟩
  | tup ds =>
    rw [hd] at ed
    obtain ⟨l, vs, rfl, hl, rl⟩ := RsR.tup k2.sim q1' (by cases ra <;> rfl) (by rw [Rs.fz_dat]; exact hd)
    obtain ⟨v, ev, rv⟩ := reps_at rl ed
    exact .inr (.inl ⟨l, vs, i, v, rfl, r2, hl, ev, k2.now rv⟩)
def cutD (xs : List Dm) (lo hi : Option Int) : List Dm := (xs.drop (HT.sIx xs.length 0 lo)).take (HT.sIx xs.length xs.length hi - HT.sIx xs.length 0 lo)
theorem reps_cut {K : PySem.W.Frag} {G : Hp} {ds : List Dm} {xs : List V} (h : Reps K G ds xs) (lo hi : Option Int) : Reps K G (cutD ds lo hi) (cutV xs lo hi) := by
  unfold cutD cutV
  rw [h.length]
  exact (h.drop _).take _
abbrev OF := List Sl → Option (Option Int)
def pNo : OF := fun _ => some none
def pSome (f : EF) : OF := fun δ => (dt f δ).bind fun a => a.int?.map some
def tOD (K : PySem.W.Frag) (f : OF) : TO := fun σ H Q => ∃ B G0 G δ o, Sim K B G0 G δ σ H ∧ f δ = some o ∧ ∀ G' H', Sim K B G0 G' δ σ H' → Gr G H G' H' → Q o H'
def POD (X : Cx) (e : Option Expr) (f : OF) : Prop := PO X e (tOD X.K f)
theorem PO.imp {e : Option Expr} {t t' : TO} (h : PO X e t) (i : ∀ σ H Q, t' σ H Q → t σ H Q) : PO X e t' := fun pins s σ H Q I q => h pins s σ H Q I (i σ H Q q)
theorem po_no : POD X none pNo := PO.imp po_none fun σ H Q h => by
  obtain ⟨B, G0, G, δ, o, S, e, k⟩ := h
  cases e
  exact k G H S Gr.refl
theorem po_at {e : Expr} {f : EF} (h : PD X e f) : POD X (some e) (pSome f) := PO.imp (po_some h.fz) fun σ H Q h => by
  obtain ⟨B, G0, G, δ, o, S, e, k⟩ := h
  obtain ⟨a, ea, e⟩ := Option.bind_eq_some_iff.mp e
  obtain ⟨ra, era, rfl⟩ := dt_some ea
  obtain ⟨i, ei, e⟩ := Option.map_eq_some_iff.mp e
  subst e
  refine ⟨B, G0, G, δ, ra.fz, S, fz_some era, fun x G1 H1 S1 g1 q1 => ?_⟩
  have r1 := RsR.rep S1 q1
  rw [Rs.fz_dat, int_some ei] at r1
  unfold Rep at r1
  exact ⟨_, r1, k G1 H1 S1 g1⟩
def slD (d : Dm) (l h : Option Int) : Option Rs := match d with
  | .lst ds => some (.ow (cutD ds l h))
  | .tup ds => if HT.sIx ds.length 0 l = 0 ∧ HT.sIx ds.length ds.length h = ds.length then none else some (.sh (.tup (cutD ds l h)))
  | _ => none
def fSl (fa : EF) (lo hi : OF) : EF := fun δ => (dt fa δ).bind fun a => (lo δ).bind fun l => (hi δ).bind fun h => slD a l h
theorem pd_sl {a : Expr} {pos p2 : Pos} {lo hi : Option Expr} {fa : EF} {fl fh : OF} (ha : PD X a fa) (hl : POD X lo fl) (hh : POD X hi fh) : PD X (.Subscript a (.Slice lo hi none p2) pos) (fSl fa fl fh) := PE.imp (pe_slice (sl_list.or sl_tup) ha.fz hl hh) fun σ H Q h => by
  obtain ⟨B, G0, G, δ, r0, S, e, k⟩ := h
  obtain ⟨a, ea, e⟩ := Option.bind_eq_some_iff.mp e
  obtain ⟨l, el, e⟩ := Option.bind_eq_some_iff.mp e
  obtain ⟨u, eu, e⟩ := Option.bind_eq_some_iff.mp e
  obtain ⟨ra, era, rfl⟩ := dt_some ea
  refine run1 ⟨S, k⟩ era fun x G1 H1 k1 g1 q1 => ⟨B, G0, G1, δ, l, k1.sim, el, fun G2 H2 S2 g2 => ⟨B, G0, G2, δ, u, S2, eu, fun G3 H3 S3 g3 => ?_⟩⟩
  have k3 := (k1.step S2 g2).step S3 g3
  have q3 := (q1.mono (H' := H2) (B'' := H2) ra.fz_still g2.gg).mono (H' := H3) (B'' := H3) ra.fz_still g3.gg
  cases hd : ra.dat with
  | non => rw [hd] at e; cases e
  | bl b => rw [hd] at e; cases e
  | int j => rw [hd] at e; cases e
  | str z => rw [hd] at e; cases e
  | lst ds =>
    rw [hd] at e
    cases e
    obtain ⟨a, vs, rfl, hl, rl⟩ := RsR.lst k3.sim q3 (by rw [Rs.fz_dat]; exact hd)
    exact .inl ⟨a, vs, rfl, hl, fun p hp => k3.newL (reps_cut rl l u) hp⟩
  | tup ds =>
    rw [hd] at e
    have e' : (if HT.sIx ds.length 0 l = 0 ∧ HT.sIx ds.length ds.length u = ds.length then none else some (Rs.sh (.tup (cutD ds l u)))) = some r0 := e
    obtain ⟨a, vs, rfl, hl, rl⟩ := RsR.tup k3.sim q3 (by cases ra <;> rfl) (by rw [Rs.fz_dat]; exact hd)
    by_cases hc : HT.sIx ds.length 0 l = 0 ∧ HT.sIx ds.length ds.length u = ds.length
    · rw [if_pos hc] at e'; cases e'
    · rw [if_neg hc] at e'; cases e'
      exact .inr ⟨a, vs, rfl, hl, by rw [← rl.length]; exact hc, fun p hp => k3.newT (reps_cut rl l u) hp⟩
end
end
end BF
set_option Elab.async false
set_option linter.all false
set_option maxRecDepth 100000
set_option maxHeartbeats 4000000
namespace BF
open PySem PySem.Spec L2
noncomputable section
variable {X : Cx}
abbrev BF' := List Sl → Option Bool
def tTD (K : PySem.W.Frag) (f : BF') : TT := fun σ H Q => ∃ B G0 G δ b, Sim K B G0 G δ σ H ∧ f δ = some b ∧ ∀ G' H', Sim K B G0 G' δ σ H' → Gr G H G' H' → Q b H'
def PTD (X : Cx) (e : Expr) (f : BF') : Prop := PT X e (tTD X.K f)
def PWD (X : Cx) (e : Expr) (f : BF') : Prop := PW X e (tTD X.K f)
theorem PW.imp {e : Expr} {t t' : TT} (h : PW X e t) (i : ∀ σ H Q, t' σ H Q → t σ H Q) : PW X e t' := fun wh pins s σ H Q I q => h wh pins s σ H Q I (i σ H Q q)
def Dm.bl? : Dm → Option Bool
  | .bl b => some b
  | _ => none
theorem bl_some {d : Dm} {b : Bool} (e : d.bl? = some b) : d = .bl b := by
  cases d <;> first | (cases e; done) | (have e' := Option.some.inj e; rw [e'])
def bB (f : EF) : BF' := fun δ => (dt f δ).bind Dm.bl?
theorem tD_bB {K : PySem.W.Frag} {f : EF} {σ : L2.St} {H : Hp} {Q : Bool → Hp → Prop} (h : tTD K (bB f) σ H Q) : tD K (fz f) σ H fun x H' => ∃ k, x = .bl k ∧ Q k H' := by
  obtain ⟨B, G0, G, δ, b, S, e, k⟩ := h
  obtain ⟨a, ea, e⟩ := Option.bind_eq_some_iff.mp e
  obtain ⟨ra, era, rfl⟩ := dt_some ea
  refine ⟨B, G0, G, δ, ra.fz, S, fz_some era, fun x G1 H1 S1 g1 q1 => ?_⟩
  have r1 := RsR.rep S1 q1
  rw [Rs.fz_dat, bl_some e] at r1
  unfold Rep at r1
  exact ⟨b, r1, k G1 H1 S1 g1⟩
theorem pt_of {e : Expr} {f : EF} (h : PD X e f) (he : ∀ whole, isTrue e X.env whole = (do let v ← whole; standAt e.pos; holding [v] (truthy v)) := by intro _; rfl) : PTD X e (bB f) :=
  PT.imp (pt_val h.fz he) fun _ _ _ q => tD_bB q
theorem pt_c {op : CmpOp} {a b : Expr} {pos : Pos} {r : R2} {o : Dm → Dm → Option Dm} {fa fb : EF} (ho : OpR X (compareOp op) r) (h2 : Op2 X.K r o) (ha : PD X a fa) (hb : PD X b fb) (hm : behindInMarks op b = false) : PTD X (.Compare a [op] [b] pos) (bB (op2 o fa fb)) :=
  PT.imp (pt_cmpR ho ha.fz hb.fz hm) fun σ H Q q => op2_run h2 (by
    have q' := tD_bB q
    obtain ⟨B, G0, G, δ, r, S, e, k⟩ := q'
    obtain ⟨r1, e1, e2⟩ := Option.map_eq_some_iff.mp (show (op2 o fa fb δ).map Rs.fz = some r from e)
    refine ⟨B, G0, G, δ, r1, S, e1, fun v G' H' S' g q => ?_⟩
    have hr : r1.fz = r1 := by
      obtain ⟨a, ea, e1⟩ := Option.bind_eq_some_iff.mp e1
      obtain ⟨b, eb, e1⟩ := Option.bind_eq_some_iff.mp e1
      obtain ⟨d, ed, e1⟩ := Option.map_eq_some_iff.mp e1
      rw [← e1]; rfl
    exact k v G' H' S' g (by rw [← e2, hr]; exact q))
section
variable {a b : Expr} {pos : Pos} {fa fb : EF}
theorem pt_lt (ha : PD X a fa) (hb : PD X b fb) : PTD X (.Compare a [.Lt] [b] pos) (bB (op2 oLt fa fb)) := pt_c op_lt op2_B0 ha hb (nomark _)
theorem pt_gt (ha : PD X a fa) (hb : PD X b fb) : PTD X (.Compare a [.Gt] [b] pos) (bB (op2 oGt fa fb)) := pt_c op_gt op2_B0 ha hb (nomark _)
theorem pt_ge (ha : PD X a fa) (hb : PD X b fb) : PTD X (.Compare a [.GtE] [b] pos) (bB (op2 oGe fa fb)) := pt_c op_ge op2_B0 ha hb (nomark _)
theorem pt_eq (hu : X.A.units + 64 < cLine) (ha : PD X a fa) (hb : PD X b fb) : PTD X (.Compare a [.Eq] [b] pos) (bB (op2 (oEq false) fa fb)) := pt_c (op_eqD hu) (op2_eq false) ha hb (nomark _)
theorem pt_ne (hu : X.A.units + 64 < cLine) (ha : PD X a fa) (hb : PD X b fb) : PTD X (.Compare a [.NotEq] [b] pos) (bB (op2 (oEq true) fa fb)) := pt_c (op_neD hu) (op2_eq true) ha hb (nomark _)
end
def bAnd (f g : BF') : BF' := fun δ => (f δ).bind fun a => if a = true then g δ else some false
def bOr (f g : BF') : BF' := fun δ => (f δ).bind fun a => if a = true then some true else g δ
def bNot (f : BF') : BF' := fun δ => (f δ).map (!·)
theorem pw1_and {a : Expr} {pos : Pos} {f : BF'} (h : PTD X a f) : PWD X (.BoolOp .And [a] pos) f := pw_and1 h
theorem pw1_or {a : Expr} {pos : Pos} {f : BF'} (h : PTD X a f) : PWD X (.BoolOp .Or [a] pos) f := pw_or1 h
theorem pwd_and {a b : Expr} {rest : List Expr} {pos : Pos} {f g : BF'} (h : PTD X a f) (h' : PWD X (.BoolOp .And (b :: rest) pos) g) : PWD X (.BoolOp .And (a :: b :: rest) pos) (bAnd f g) := PW.imp (pw_and h h') fun σ H Q q => by
  obtain ⟨B, G0, G, δ, c, S, e, k⟩ := q
  obtain ⟨a, ea, e⟩ := Option.bind_eq_some_iff.mp e
  refine ⟨B, G0, G, δ, a, S, ea, fun G1 H1 S1 g1 => ?_⟩
  cases a with
  | true => rw [if_pos rfl] at e ⊢; exact ⟨B, G0, G1, δ, c, S1, e, fun G2 H2 S2 g2 => k G2 H2 S2 (g1.trans g2)⟩
  | false => rw [if_neg Bool.false_ne_true] at e ⊢; cases e; exact k G1 H1 S1 g1
theorem pwd_or {a b : Expr} {rest : List Expr} {pos : Pos} {f g : BF'} (h : PTD X a f) (h' : PWD X (.BoolOp .Or (b :: rest) pos) g) : PWD X (.BoolOp .Or (a :: b :: rest) pos) (bOr f g) := PW.imp (pw_or h h') fun σ H Q q => by
  obtain ⟨B, G0, G, δ, c, S, e, k⟩ := q
  obtain ⟨a, ea, e⟩ := Option.bind_eq_some_iff.mp e
  refine ⟨B, G0, G, δ, a, S, ea, fun G1 H1 S1 g1 => ?_⟩
  cases a with
  | false => rw [if_neg Bool.false_ne_true] at e ⊢; exact ⟨B, G0, G1, δ, c, S1, e, fun G2 H2 S2 g2 => k G2 H2 S2 (g1.trans g2)⟩
  | true => rw [if_pos rfl] at e ⊢; cases e; exact k G1 H1 S1 g1
theorem PWD.t {e : Expr} {f : BF'} (h : PWD X e f) : PTD X e f := PW.pt h
theorem ptd_not {a : Expr} {pos : Pos} {f : BF'} (h : PTD X a f) : PTD X (.UnaryOp .Not a pos) (bNot f) := PT.imp (pt_not h) fun σ H Q q => by
  obtain ⟨B, G0, G, δ, c, S, e, k⟩ := q
  obtain ⟨a, ea, e⟩ := Option.map_eq_some_iff.mp e
  subst e
  exact ⟨B, G0, G, δ, a, S, ea, k⟩
def vAnd (f g : EF) : EF := fun δ => (bB f δ).bind fun a => if a = true then g δ else some (.sh (.bl false))
def vOr (f g : EF) : EF := fun δ => (bB f δ).bind fun a => if a = true then some (.sh (.bl true)) else g δ
def vNot (f : EF) : EF := fun δ => (bB f δ).map fun a => .sh (.bl (!a))
theorem pd_one {op} {a : Expr} {pos : Pos} {f : EF} (h : PD X a f) : PD X (.BoolOp op [a] pos) f := pe_one h
theorem run_bB {K : PySem.W.Frag} {B G0 G : Hp} {δ : List Sl} {σ : L2.St} {H : Hp} {r : Rs} {Q R : VK} {f : EF} {b : Bool} (k : KD K B G0 G δ σ H r Q) (e : bB f δ = some b) (h : ∀ G1 H1, KD K B G0 G1 δ σ H1 r Q → R (.bl b) H1) : tD K (fz f) σ H R := by
  obtain ⟨a, ea, e⟩ := Option.bind_eq_some_iff.mp e
  obtain ⟨ra, era, rfl⟩ := dt_some ea
  refine run1 k era fun x G1 H1 k1 g1 q1 => ?_
  have r1 := RsR.rep k1.sim q1
  rw [Rs.fz_dat, bl_some e] at r1
  unfold Rep at r1
  subst r1
  exact h G1 H1 k1
theorem pd_and {a b : Expr} {rest : List Expr} {pos : Pos} {f g : EF} (h : PD X a f) (h' : PD X (.BoolOp .And (b :: rest) pos) g) : PD X (.BoolOp .And (a :: b :: rest) pos) (vAnd f g) := PE.imp (pe_and h.fz h') fun σ H Q q => by
  obtain ⟨B, G0, G, δ, r, S, e, k⟩ := q
  obtain ⟨a, ea, e⟩ := Option.bind_eq_some_iff.mp e
  refine run_bB ⟨S, k⟩ ea fun G1 H1 k1 => ⟨a, rfl, ?_⟩
  cases a with
  | true => rw [if_pos rfl] at e ⊢; exact k1.tD e
  | false => rw [if_neg Bool.false_ne_true] at e ⊢; cases e; exact k1.now (rep_scal rfl)
def evs : List EF → List Sl → Option (List Rs)
  | [], _ => some []
  | f :: r, δ => (f δ).bind fun a => (evs r δ).bind fun as => some (a.fz :: as)
def RsRs (K : PySem.W.Frag) (G H : Hp) (δ : List Sl) (σ : L2.St) : List Rs → List V → Prop
  | [], vs => vs = []
  | r :: rs, vs => ∃ v t, vs = v :: t ∧ r.still = true ∧ RsR K H G H δ σ r v ∧ RsRs K G H δ σ rs t
theorem RsRs.mono {K : PySem.W.Frag} {G G' H H' : Hp} {δ : List Sl} {σ : L2.St} (g : Same G G') : ∀ {rs : List Rs} {vs : List V}, RsRs K G H δ σ rs vs → RsRs K G' H' δ σ rs vs
  | [], _, h => h
  | r :: rs, _, h => by
    obtain ⟨v, t, e, s, q, h⟩ := h
    exact ⟨v, t, e, s, q.mono s g, RsRs.mono g h⟩
def tAD (K : PySem.W.Frag) (fs : List EF) : TA := fun σ H Q => ∃ B G0 G δ rs, Sim K B G0 G δ σ H ∧ evs fs δ = some rs ∧ ∀ vs G' H', Sim K B G0 G' δ σ H' → Gr G H G' H' → RsRs K G' H' δ σ rs vs → Q vs H'
def PAD (X : Cx) (es : List Expr) (fs : List EF) : Prop := PA X es (tAD X.K fs)
theorem PA.imp {es : List Expr} {t t' : TA} (h : PA X es t) (i : ∀ σ H Q, t' σ H Q → t σ H Q) : PA X es t' := fun pos pins s σ H Q I q => h pos pins s σ H Q I (i σ H Q q)
theorem pad_nil : PAD X [] [] := PA.imp pa_nil fun σ H Q h => by
  obtain ⟨B, G0, G, δ, rs, S, e, k⟩ := h
  cases e
  exact k [] G H S Gr.refl rfl
theorem pad_cons {e : Expr} {es : List Expr} {f : EF} {fs : List EF} (h : PD X e f) (hr : PAD X es fs) (hs : starEach (e :: es) X.env = (false, eval e X.env) :: starEach es X.env := by rfl) : PAD X (e :: es) (f :: fs) := PA.imp (pa_cons h.fz hr hs) fun σ H Q h => by
  obtain ⟨B, G0, G, δ, rs, S, e, k⟩ := h
  obtain ⟨ra, era, e⟩ := Option.bind_eq_some_iff.mp e
  obtain ⟨rs', ers, e⟩ := Option.bind_eq_some_iff.mp e
  cases e
  refine ⟨B, G0, G, δ, ra.fz, S, fz_some era, fun x G1 H1 S1 g1 q1 => ⟨B, G0, G1, δ, rs', S1, ers, fun vs G2 H2 S2 g2 q2 => ?_⟩⟩
  exact k (x :: vs) G2 H2 S2 (g1.trans g2) ⟨x, vs, rfl, ra.fz_still, q1.mono ra.fz_still g2.gg, q2⟩
def Rs.isSh : Rs → Bool
  | .sh _ => true
  | _ => false
theorem RsRs.reps {K : PySem.W.Frag} {B G0 G H : Hp} {δ : List Sl} {σ : L2.St} (S : Sim K B G0 G δ σ H) : ∀ {rs : List Rs} {vs : List V}, RsRs K G H δ σ rs vs → rs.all Rs.isSh = true → Reps K G (rs.map Rs.dat) vs
  | [], vs, h, _ => by unfold Reps; exact h
  | r :: rs, vs, h, a => by
    obtain ⟨v, t, e, s, q, h⟩ := h
    rw [List.all_cons, Bool.and_eq_true] at a
    subst e
    refine Reps.cons ?_ (RsRs.reps S h a.2)
    cases r with
    | sh d => exact q
    | ow ds => cases s
    | al i ds => exact absurd (show false = true from a.1) Bool.false_ne_true
    | ft pre es => exact absurd (show false = true from a.1) Bool.false_ne_true
theorem RsRs.repsH {K : PySem.W.Frag} {B G0 G H : Hp} {δ : List Sl} {σ : L2.St} (S : Sim K B G0 G δ σ H) : ∀ {rs : List Rs} {vs : List V}, RsRs K G H δ σ rs vs → Reps K H (rs.map Rs.dat) vs
  | [], vs, h => by unfold Reps; exact h
  | r :: rs, vs, h => by
    obtain ⟨v, t, e, s, q, h⟩ := h
    subst e
    exact Reps.cons (RsR.rep S q) (RsRs.repsH S h)
def fTup (fs : List EF) : EF := fun δ => (evs fs δ).bind fun rs => if rs.all Rs.isSh && decide (rs.length ≤ sizeLine) then some (.sh (.tup (rs.map Rs.dat))) else none
def fLst (fs : List EF) : EF := fun δ => (evs fs δ).bind fun rs => if rs.all Rs.isSh && decide (rs.length ≤ sizeLine) then some (.ow (rs.map Rs.dat)) else none
theorem pd_tup {es : List Expr} {x1} {pos : Pos} {fs : List EF} (h : PAD X es fs) : PD X (.Tuple es x1 pos) (fTup fs) := PE.imp (pe_tup h) fun σ H Q h => by
  obtain ⟨B, G0, G, δ, r, S, e, k⟩ := h
  obtain ⟨rs, ers, e⟩ := Option.bind_eq_some_iff.mp e
  by_cases hc : (rs.all Rs.isSh && decide (rs.length ≤ sizeLine)) = true
  · rw [if_pos hc] at e; cases e
    rw [Bool.and_eq_true] at hc
    refine ⟨B, G0, G, δ, rs, S, ers, fun vs G1 H1 S1 g1 q1 => ?_⟩
    have rp := RsRs.reps S1 q1 hc.1
    refine ⟨by rw [← rp.length, List.length_map]; exact of_decide_eq_true hc.2, fun p hp => (KD.step ⟨S, k⟩ S1 g1).newT rp hp⟩
  · rw [if_neg hc] at e; cases e
theorem pd_lst {es : List Expr} {pos : Pos} {fs : List EF} (h : PAD X es fs) : PD X (.List es pos) (fLst fs) := PE.imp (pe_lst h) fun σ H Q h => by
  obtain ⟨B, G0, G, δ, r, S, e, k⟩ := h
  obtain ⟨rs, ers, e⟩ := Option.bind_eq_some_iff.mp e
  by_cases hc : (rs.all Rs.isSh && decide (rs.length ≤ sizeLine)) = true
  · rw [if_pos hc] at e; cases e
    rw [Bool.and_eq_true] at hc
    refine ⟨B, G0, G, δ, rs, S, ers, fun vs G1 H1 S1 g1 q1 => ?_⟩
    have rp := RsRs.reps S1 q1 hc.1
    refine ⟨by rw [← rp.length, List.length_map]; exact of_decide_eq_true hc.2, fun p hp => (KD.step ⟨S, k⟩ S1 g1).newL rp hp⟩
  · rw [if_neg hc] at e; cases e
def Ret (K : PySem.W.Frag) (H G' H' : Hp) : Rs → V → Prop
  | .sh d, v => Rep K G' d v
  | .ow ds, v => ∃ p xs, v = .ref p ∧ H' p = some (.lst xs) ∧ G' p = none ∧ H p = none ∧ Reps K G' ds xs
  | .ft pre es, v => ∃ a p vs xs, v = .ref a ∧ H' a = some (.tup (vs ++ [.ref p])) ∧ H' p = some (.lst xs) ∧ G' a = none ∧ G' p = none ∧ H a = none ∧ H p = none ∧ Reps K G' pre vs ∧ Reps K G' es xs
  | .al _ _, _ => False
abbrev FD := List Dm → Option Rs
def spD (K : PySem.W.Frag) (F : FD) : Sp := fun vs H Q _ => ∃ G ds r, Same G H ∧ Reps K G ds vs ∧ F ds = some r ∧
  ∀ v G' H', Same H H' → Same G G' → Same G' H' → (∀ b, H b ≠ none → G' b = G b) → Ret K H G' H' r v → Q v H'
def Rs.scal : Rs → Bool
  | .sh d => d.scal
  | _ => false
def fCall (F : FD) (fs : List EF) : EF := fun δ => (evs fs δ).bind fun rs => (F (rs.map Rs.dat)).bind fun r => if rs.all Rs.isSh || r.scal then some r else none
theorem call_run {K : PySem.W.Frag} {F : FD} {fs : List EF} {σ : L2.St} {H : Hp} {Q : VK} {E : XK} (h : tD K (fCall F fs) σ H Q) : tAD K fs σ H fun vs H1 => spD K F vs H1 Q E := by
  obtain ⟨B, G0, G, δ, r, S, e, k⟩ := h
  obtain ⟨rs, ers, e⟩ := Option.bind_eq_some_iff.mp e
  obtain ⟨r1, e1, e⟩ := Option.bind_eq_some_iff.mp e
  refine ⟨B, G0, G, δ, rs, S, ers, fun vs G1 H1 S1 g1 q1 => ?_⟩
  have k1 := KD.step ⟨S, k⟩ S1 g1
  by_cases hsh : rs.all Rs.isSh = true
  · rw [hsh, Bool.true_or, if_pos rfl] at e
    cases e
    refine ⟨G1, _, r, S1.gh, RsRs.reps S1 q1 hsh, e1, fun v G' H' hh gg gh nw ret => ?_⟩
    have S' : Sim K B G0 G' δ σ H' := S1.ext ⟨gg, hh, nw⟩ gh
    refine k1.out v G' H' S' ⟨gg, hh, nw⟩ ?_
    cases r with
    | sh d => exact ret
    | al i ds => exact ret.elim
    | ow ds =>
      obtain ⟨p, xs, e1, e2, e3, e4, r⟩ := ret
      exact ⟨p, xs, e1, e2, e3, e4, r⟩
    | ft pre es => exact ret
  · by_cases hsc : r1.scal = true
    · rw [hsc, Bool.or_true, if_pos rfl] at e
      cases e
      refine ⟨H1, _, r, Same.refl H1, RsRs.repsH S1 q1, e1, fun v G' H' hh gg gh nw ret => ?_⟩
      cases r with
      | sh d =>
        have hv : Rep K G' d v := ret
        have hsc' : d.scal = true := hsc
        have hv2 : Rep K G1 d v := by
          cases d with
          | lst ds => exact absurd (show false = true from hsc') Bool.false_ne_true
          | tup ds => exact absurd (show false = true from hsc') Bool.false_ne_true
          | _ => unfold Rep at hv ⊢; exact hv
        exact k1.out v G1 H' (S1.grow hh) ⟨Same.refl G1, hh, fun _ _ => rfl⟩ hv2
      | al i ds => exact ret.elim
      | ow ds => exact absurd (show false = true from hsc) Bool.false_ne_true
      | ft pre es => exact absurd (show false = true from hsc) Bool.false_ne_true
    · have : (rs.all Rs.isSh || r1.scal) = false := by
        rw [Bool.or_eq_false_iff]; exact ⟨by simpa using hsh, by simpa using hsc⟩
      rw [this, if_neg Bool.false_ne_true] at e; cases e
theorem pd_call {x : Str} {f : Addr} {fd : FuncData} {ps : List Str} {k : Nat} {F : FD} {p pos : Pos} {e : Expr} {es : List Expr} {fs : List EF} (G : FnOk X.prog X.w X.K X.mg X.base CX0 k f fd ps (spD X.K F)) (hr : Room k X.A) (hg : Gl X x) (hm : X.mg x = some (.ref f)) (hk : PySem.W.keepIn X.K (.ref f) = true)
    (hb : Binds X.K fd ps []) (ha : PAD X (e :: es) fs) (hdb : (x == ("__debug__" : Str)) = false := by decide +kernel) (he : starEach (e :: es) X.env = (false, eval e X.env) :: starEach es X.env := by rfl) (hpl : (backTo pos (starEach es X.env)).any (·.1) = false := by rfl) : PD X (.Call (.Name x p) (e :: es) [] pos) (fCall F fs) :=
  PE.imp (pe_call G hr hg hm hk hb .nil pass0 ha hdb he hpl) fun σ H Q h => by
    have := call_run (E := E0) h
    show tAD X.K fs σ H fun vs H1 => spD X.K F (vs ++ []) H1 Q E0
    simpa using this
end
end BF
set_option Elab.async false
set_option linter.all false
set_option maxRecDepth 100000
set_option maxHeartbeats 4000000
namespace BF
open PySem PySem.Spec L2
noncomputable section
variable {X : Cx}
def fB (o : List Dm → Option Dm) (fs : List EF) : EF := fun δ => (evs fs δ).bind fun rs => (o (rs.map Rs.dat)).map .sh
def CallS (K : PySem.W.Frag) (r : List V → Hp → VK → Prop) (o : List Dm → Option Dm) : Prop := ∀ vs H ds d Q, Reps K H ds vs → o ds = some d → d.scal = true ∧ (Q (vOf d) H → r vs H Q)
theorem fB_run {K : PySem.W.Frag} {r : List V → Hp → VK → Prop} {o : List Dm → Option Dm} {fs : List EF} (hs : CallS K r o) {σ : L2.St} {H : Hp} {Q : VK} (h : tD K (fB o fs) σ H Q) : tAD K fs σ H fun vs H1 => r vs H1 Q := by
  obtain ⟨B, G0, G, δ, r0, S, e, k⟩ := h
  obtain ⟨rs, ers, e⟩ := Option.bind_eq_some_iff.mp e
  obtain ⟨d, ed, e⟩ := Option.map_eq_some_iff.mp e
  subst e
  refine ⟨B, G0, G, δ, rs, S, ers, fun vs G1 H1 S1 g1 q1 => ?_⟩
  obtain ⟨sc, go⟩ := hs vs H1 _ d Q (RsRs.repsH S1 q1) ed
  exact go ((KD.step ⟨S, k⟩ S1 g1).now (rep_scal sc))
section
variable {x : Str} {p pos : Pos} {e : Expr} {es : List Expr} {fs : List EF} {id T : String} {r : List V → Hp → VK → Prop} {o : List Dm → Option Dm}
theorem pd_bi (hc : CallR X (.builtin id) r) (hs : CallS X.K r o) (hg : Gl X x) (hm : X.mg x = none) (hv : bootBuiltins x = some (.builtin id)) (ha : PAD X (e :: es) fs) (hn : x ≠ "__name__" := by decide +kernel) (hdb : (x == ("__debug__" : Str)) = false := by decide +kernel)
    (he : starEach (e :: es) X.env = (false, eval e X.env) :: starEach es X.env := by rfl) (hpl : (backTo pos (starEach es X.env)).any (·.1) = false := by rfl) : PD X (.Call (.Name x p) (e :: es) [] pos) (fB o fs) :=
  PE.imp (pe_callB hc hg hm hv ha hn hdb he hpl) fun _ _ _ h => fB_run hs h
theorem pd_ty (hc : CallR X (.type T) r) (hs : CallS X.K r o) (hg : Gl X x) (hm : X.mg x = none) (hv : bootBuiltins x = some (.type T)) (ha : PAD X (e :: es) fs) (hn : x ≠ "__name__" := by decide +kernel) (hdb : (x == ("__debug__" : Str)) = false := by decide +kernel)
    (he : starEach (e :: es) X.env = (false, eval e X.env) :: starEach es X.env := by rfl) (hpl : (backTo pos (starEach es X.env)).any (·.1) = false := by rfl) : PD X (.Call (.Name x p) (e :: es) [] pos) (fB o fs) :=
  PE.imp (pe_callTy hc hg hm hv ha hn hdb he hpl) fun _ _ _ h => fB_run hs h
end
theorem reps1 {K : PySem.W.Frag} {H : Hp} {d : Dm} {vs : List V} (h : Reps K H [d] vs) : ∃ v, vs = [v] ∧ Rep K H d v := by
  unfold Reps at h
  obtain ⟨v, r, e, q, t⟩ := h
  unfold Reps at t
  subst t
  exact ⟨v, e, q⟩
theorem reps2 {K : PySem.W.Frag} {H : Hp} {d c : Dm} {vs : List V} (h : Reps K H [d, c] vs) : ∃ v u, vs = [v, u] ∧ Rep K H d v ∧ Rep K H c u := by
  unfold Reps at h
  obtain ⟨v, r, e, q, t⟩ := h
  obtain ⟨u, e', q'⟩ := reps1 t
  subst e'
  exact ⟨v, u, e, q, q'⟩
def oLen : List Dm → Option Dm
  | [.lst ds] => some (.int ds.length)
  | [.tup ds] => some (.int ds.length)
  | [.str z] => if z.length ≤ sizeLine then some (.int z.length) else none
  | _ => none
theorem cs_len {K : PySem.W.Frag} : CallS K (fun xs H Q => ∃ x n, xs = [x] ∧ LenV K x H n ∧ Q (.int n) H) oLen := by
  intro vs H ds d Q h e
  unfold oLen at e
  split at e
  · cases e
    obtain ⟨v, rfl, q⟩ := reps1 h
    unfold Rep at q
    obtain ⟨a, xs, rfl, hq, rr⟩ := q
    exact ⟨rfl, fun k => ⟨_, _, rfl, .inl ⟨xs, hq, rr.length⟩, k⟩⟩
  · cases e
    obtain ⟨v, rfl, q⟩ := reps1 h
    unfold Rep at q
    obtain ⟨a, xs, rfl, hq, rr⟩ := q
    exact ⟨rfl, fun k => ⟨_, _, rfl, .inr ⟨xs, hq, rr.length⟩, k⟩⟩
  · split at e
    · rename_i hz
      cases e
      obtain ⟨v, rfl, q⟩ := reps1 h
      unfold Rep at q
      subst q
      exact ⟨rfl, fun k => ⟨_, _, rfl, ⟨hz, rfl⟩, k⟩⟩
    · cases e
  · cases e
def oMin : List Dm → Option Dm
  | [.int i, .int j] => some (.int (if j < i then j else i))
  | _ => none
theorem cs_min {K : PySem.W.Frag} : CallS K (fun xs H Q => ∃ i j, xs = [.int i, .int j] ∧ Q (.int (if j < i then j else i)) H) oMin := by
  intro vs H ds d Q h e
  unfold oMin at e
  split at e
  · cases e
    obtain ⟨v, u, rfl, q, q'⟩ := reps2 h
    unfold Rep at q q'
    subst q q'
    exact ⟨rfl, fun k => ⟨_, _, rfl, k⟩⟩
  · cases e
def ints? : List Dm → Option (List Int)
  | [] => some []
  | d :: ds => d.int?.bind fun i => (ints? ds).map fun r => i :: r
theorem ints_some : ∀ {ds : List Dm} {ns : List Int}, ints? ds = some ns → ds = ns.map .int
  | [], ns, e => by cases e; rfl
  | d :: ds, ns, e => by
    obtain ⟨i, ei, e⟩ := Option.bind_eq_some_iff.mp (show (d.int?.bind fun i => (ints? ds).map fun r => i :: r) = some ns from e)
    obtain ⟨r, er, e⟩ := Option.map_eq_some_iff.mp e
    subst e
    rw [int_some ei, ints_some er]; rfl
theorem reps_ints {K : PySem.W.Frag} {H : Hp} : ∀ {ns : List Int} {xs : List V}, Reps K H (ns.map .int) xs → xs = ns.map .int
  | [], xs, h => by unfold List.map Reps at h; exact h
  | n :: ns, xs, h => by
    unfold List.map Reps at h
    obtain ⟨v, r, e, q, t⟩ := h
    unfold Rep at q
    rw [e, q, reps_ints t]; rfl
def oSum : List Dm → Option Dm
  | [.lst ds] => (ints? ds).map fun ns => .int ns.sum
  | _ => none
def fIsi (f : EF) (c : String) : EF := fun δ => (dt f δ).map fun d => .sh (.bl (isTy d c))
theorem pd_isi {e : Expr} {f : EF} {T : Str} {c : String} {p p2 pos : Pos} (h : PD X e f) (hc : c = "int" ∨ c = "bool" ∨ c = "str" ∨ c = "list" ∨ c = "tuple") (hg : Gl X "isinstance") (hm : X.mg "isinstance" = none) (hv : bootBuiltins "isinstance" = some (.builtin "isinstance"))
    (hgT : Gl X T) (hmT : X.mg T = none) (hvT : bootBuiltins T = some (.type c)) (hnT : T ≠ "__name__" := by decide +kernel) (hdT : (T == ("__debug__" : Str)) = false := by decide +kernel) (he : starEach [e, .Name T p2] X.env = (false, eval e X.env) :: starEach [.Name T p2] X.env := by rfl) : PD X (.Call (.Name "isinstance" p) [e, .Name T p2] [] pos) (fIsi f c) := by
  refine PE.imp (pe_callB call_isi hg hm hv (pa_cons h.fz (pa_cons (pe_bltn (v := .ty c) hgT hmT hvT rfl hnT hdT) pa_nil) he) (by decide +kernel) (by decide +kernel) he) fun σ H Q h => ?_
  obtain ⟨B, G0, G, δ, r0, S, e, k⟩ := h
  obtain ⟨d, ed, e⟩ := Option.map_eq_some_iff.mp e
  subst e
  obtain ⟨ra, era, rfl⟩ := dt_some ed
  refine run1 ⟨S, k⟩ era fun x G1 H1 k1 g1 q1 => ?_
  have r1 := RsR.rep k1.sim q1
  rw [Rs.fz_dat] at r1
  exact ⟨x, _, c, rfl, r1, hc, k1.now (rep_scal rfl)⟩
def Dm.seq? : Dm → Option (List Dm)
  | .lst ds => some ds
  | .tup ds => some ds
  | _ => none
def fList (f : EF) : EF := fun δ => (dt f δ).bind fun d => d.seq?.map .ow
theorem RsRs.one {K : PySem.W.Frag} {G H : Hp} {δ : List Sl} {σ : L2.St} {r : Rs} {vs : List V} (h : RsRs K G H δ σ [r] vs) : ∃ v, vs = [v] ∧ RsR K H G H δ σ r v := by
  obtain ⟨v, t, e, _, q, h⟩ := h
  have h' : t = [] := h
  subst h'
  exact ⟨v, e, q⟩
theorem pd_list {e : Expr} {f : EF} {p pos : Pos} (h : PD X e f) (hg : Gl X "list") (hm : X.mg "list" = none) (hv : bootBuiltins "list" = some (.type "list")) (he : starEach [e] X.env = (false, eval e X.env) :: starEach [] X.env := by rfl) : PD X (.Call (.Name "list" p) [e] [] pos) (fList f) := by
  refine PE.imp (pe_callTy call_list_of hg hm hv (pad_cons h pad_nil he) (by decide +kernel) (by decide +kernel) he) fun σ H Q h => ?_
  obtain ⟨B, G0, G, δ, r0, S, e, k⟩ := h
  obtain ⟨d, ed, e⟩ := Option.bind_eq_some_iff.mp e
  obtain ⟨ds, eds, e⟩ := Option.map_eq_some_iff.mp e
  subst e
  obtain ⟨ra, era, rfl⟩ := dt_some ed
  refine ⟨B, G0, G, δ, [ra.fz], S, by unfold evs evs; rw [era]; rfl, fun vs G1 H1 S1 g1 q1 => ?_⟩
  obtain ⟨v, rfl, q⟩ := RsRs.one q1
  have k1 := KD.step ⟨S, k⟩ S1 g1
  cases hd : ra.dat with
  | lst es =>
    rw [hd] at eds; cases eds
    obtain ⟨a, xs, rfl, hq, rr⟩ := RsR.lst S1 q (by rw [Rs.fz_dat]; exact hd)
    exact ⟨a, xs, rfl, .inl hq, fun l hl => k1.newL rr hl⟩
  | tup es =>
    rw [hd] at eds; cases eds
    obtain ⟨a, xs, rfl, hq, rr⟩ := RsR.tup S1 q (by cases ra <;> rfl) (by rw [Rs.fz_dat]; exact hd)
    exact ⟨a, xs, rfl, .inr hq, fun l hl => k1.newL rr hl⟩
  | non => rw [hd] at eds; cases eds
  | bl b => rw [hd] at eds; cases eds
  | int i => rw [hd] at eds; cases eds
  | str z => rw [hd] at eds; cases eds
inductive Fl where
  | nx (δ : List Sl) | rt (r : Rs) | bk (δ : List Sl) | ct (δ : List Sl)
abbrev SF := List Sl → Option Fl
def EndOk (K : PySem.W.Frag) (B G0 G : Hp) (D : Ends) : Fl → Prop
  | .nx δ' => ∀ G' σ' H', Sim K B G0 G' δ' σ' H' → Same G G' → D.nx σ' H'
  | .bk δ' => ∀ G' σ' H', Sim K B G0 G' δ' σ' H' → Same G G' → D.bk σ' H'
  | .ct δ' => ∀ G' σ' H', Sim K B G0 G' δ' σ' H' → Same G G' → D.ct σ' H'
  | .rt r => ∀ δ' G' σ' H' v, Sim K B G0 G' δ' σ' H' → Same G G' → Ret K B G' H' r v → D.rt v H'
theorem EndOk.mono {K : PySem.W.Frag} {B G0 G G1 : Hp} {D : Ends} (g : Same G G1) : ∀ {fl : Fl}, EndOk K B G0 G D fl → EndOk K B G0 G1 D fl
  | .nx _, h => fun G' σ' H' S g' => h G' σ' H' S (g.trans g')
  | .bk _, h => fun G' σ' H' S g' => h G' σ' H' S (g.trans g')
  | .ct _, h => fun G' σ' H' S g' => h G' σ' H' S (g.trans g')
  | .rt _, h => fun δ' G' σ' H' v S g' => h δ' G' σ' H' v S (g.trans g')
def tSD (K : PySem.W.Frag) (g : SF) : TS := fun D σ H => ∃ B G0 G δ fl, Sim K B G0 G δ σ H ∧ g δ = some fl ∧ EndOk K B G0 G D fl
def PSD (X : Cx) (st : Stmt) (g : SF) : Prop := PS X st (tSD X.K g)
def PSsD (X : Cx) (st : List Stmt) (g : SF) : Prop := PSs X st (tSD X.K g)
def gNil : SF := fun δ => some (.nx δ)
def gSeq (g1 g2 : SF) : SF := fun δ => (g1 δ).bind fun fl => match fl with
  | .nx δ' => g2 δ'
  | fl => some fl
theorem psd_nil : PSsD X [] gNil := PSs.imp pss_nil fun D σ H h => by
  obtain ⟨B, G0, G, δ, fl, S, e, k⟩ := h
  cases e
  exact k G σ H S (Same.refl G)
theorem psd_cons {st : Stmt} {rest : List Stmt} {g1 g2 : SF} (h1 : PSD X st g1) (h2 : PSsD X rest g2) : PSsD X (st :: rest) (gSeq g1 g2) := PSs.imp (pss_cons h1 h2) fun D σ H h => by
  obtain ⟨B, G0, G, δ, fl, S, e, k⟩ := h
  obtain ⟨f1, e1, e⟩ := Option.bind_eq_some_iff.mp e
  refine ⟨B, G0, G, δ, f1, S, e1, ?_⟩
  cases f1 with
  | nx δ' => exact fun G' σ' H' S' g' => ⟨B, G0, G', δ', fl, S', e, k.mono g'⟩
  | rt r => cases e; exact k
  | bk δ' => cases e; exact k
  | ct δ' => cases e; exact k
theorem psd_one {st : Stmt} {g : SF} (h : PSD X st g) : PSsD X [st] g := pss_one h
def gIf (c : BF') (g1 g2 : SF) : SF := fun δ => (c δ).bind fun b => if b = true then g1 δ else g2 δ
theorem psd_if {c : Expr} {a b : List Stmt} {pos : Pos} {fc : BF'} {g1 g2 : SF} (hc : PTD X c fc) (ha : PSsD X a g1) (hb : PSsD X b g2) : PSD X (.If c a b pos) (gIf fc g1 g2) := PS.imp (ps_if hc ha hb) fun D σ H h => by
  obtain ⟨B, G0, G, δ, fl, S, e, k⟩ := h
  obtain ⟨b, eb, e⟩ := Option.bind_eq_some_iff.mp e
  refine ⟨B, G0, G, δ, b, S, eb, fun G1 H1 S1 g1 => ?_⟩
  cases b with
  | true => rw [if_pos rfl] at e ⊢; exact ⟨B, G0, G1, δ, fl, S1, e, k.mono g1.gg⟩
  | false => rw [if_neg Bool.false_ne_true] at e ⊢; exact ⟨B, G0, G1, δ, fl, S1, e, k.mono g1.gg⟩
def Rs.out : Rs → Rs
  | .al _ ds => .ow ds
  | r => r
def gRet (f : EF) : SF := fun δ => (f δ).map fun r => .rt r.out
theorem psd_ret {e : Expr} {pos : Pos} {f : EF} (h : PD X e f) : PSD X (.Return (some e) pos) (gRet f) := PS.imp (ps_ret h) fun D σ H h => by
  obtain ⟨B, G0, G, δ, fl, S, e, k⟩ := h
  obtain ⟨r, er, e⟩ := Option.map_eq_some_iff.mp e
  subst e
  refine ⟨B, G0, G, δ, r, S, er, fun v G1 H1 S1 g1 q => ?_⟩
  refine k δ G1 σ H1 v S1 g1.gg ?_
  cases r with
  | sh d => exact q
  | ow ds =>
    obtain ⟨p, xs, e1, e2, e3, e4, rr⟩ := q
    exact ⟨p, xs, e1, e2, e3, S.b_free e4, rr⟩
  | al i ds =>
    obtain ⟨h1, h2⟩ := q
    obtain ⟨p, xs, e1, e2, e3, e4, rr⟩ := S1.slot i _ h1
    rw [h2] at e1
    exact ⟨p, xs, by injection e1 with e1; injection e1, e2, e3, e4, rr⟩
  | ft pre es =>
    obtain ⟨a, p, vs, xs, e1, e2, e3, e4, e5, e6, e7, rr⟩ := q
    exact ⟨a, p, vs, xs, e1, e2, e3, e4, e5, S.b_free e6, S.b_free e7, rr⟩
theorem Sim.set {K : PySem.W.Frag} {B G0 G H : Hp} {δ : List Sl} {σ : L2.St} (S : Sim K B G0 G δ σ H) (i : Nat) {s : Sl} {v : V} (hs : SlR K B G H s (some (some v))) (hn : ∀ ds p, s = .ow ds → v = .ref p → NS δ σ p) : Sim K B G0 G (δ.set i s) (σ.set i (some v)) H := by
  have own : ∀ (j : Nat) (t : Sl), (δ.set i s)[j]? = some t → (j = i ∧ t = s ∧ (σ.set i (some v))[j]? = some (some v)) ∨ (j ≠ i ∧ δ[j]? = some t ∧ (σ.set i (some v))[j]? = σ[j]?) := fun j t h => by
    by_cases hj : j = i
    · subst hj
      have hlt : j < δ.length := by
        have := (List.getElem?_eq_some_iff.mp h).1
        simpa using this
      rw [List.getElem?_set_self hlt] at h
      exact .inl ⟨rfl, (Option.some.inj h).symm, List.getElem?_set_self (by rw [← S.len]; exact hlt)⟩
    · rw [List.getElem?_set_ne (Ne.symm hj)] at h
      exact .inr ⟨hj, h, List.getElem?_set_ne (Ne.symm hj)⟩
  refine ⟨by rw [List.length_set, List.length_set, S.len], S.bh, S.g0, S.gh, S.gb, fun j t h => ?_, fun a b ds es p hab ha hb ea eb => ?_⟩
  · rcases own j t h with ⟨_, rfl, e⟩ | ⟨_, h1, e⟩
    · rw [e]; exact hs
    · rw [e]; exact S.slot j t h1
  · rcases own a _ ha with ⟨rfl, q1, e1⟩ | ⟨n1, h1, e1⟩
    · rcases own b _ hb with ⟨rfl, _, _⟩ | ⟨n2, h2, e2⟩
      · exact hab rfl
      · rw [e1] at ea
        have ev : v = .ref p := by injection ea with ea; injection ea
        exact hn ds p q1.symm ev b es h2 (e2 ▸ eb)
    · rcases own b _ hb with ⟨rfl, q2, e2⟩ | ⟨n2, h2, e2⟩
      · rw [e2] at eb
        have ev : v = .ref p := by injection eb with eb; injection eb
        exact hn es p q2.symm ev a ds h1 (e1 ▸ ea)
      · exact S.disj a b ds es p hab h1 h2 (e1 ▸ ea) (e2 ▸ eb)
def Rs.sl : Rs → Option Sl
  | .sh d => some (.sh d)
  | .ow ds => some (.ow ds)
  | .al _ _ => none
  | .ft _ _ => none
def gSet (i : Nat) (f : EF) : SF := fun δ => (f δ).bind fun r => r.sl.map fun s => .nx (δ.set i s)
theorem set_run {K : PySem.W.Frag} {i : Nat} {f : EF} {D : Ends} {σ : L2.St} {H : Hp} (h : tSD K (gSet i f) D σ H) : tAsg (tD K f) (gName i) D σ H := by
  obtain ⟨B, G0, G, δ, fl, S, e, k⟩ := h
  obtain ⟨r, er, e⟩ := Option.bind_eq_some_iff.mp e
  obtain ⟨s, es, e⟩ := Option.map_eq_some_iff.mp e
  subst e
  refine ⟨B, G0, G, δ, r, S, er, fun v G1 H1 S1 g1 q => k G1 _ H1 ?_ g1.gg⟩
  cases r with
  | sh d => cases es; exact S1.set i ⟨v, rfl, q⟩ fun _ _ z => by cases z
  | al j ds => cases es
  | ft pre fs => cases es
  | ow ds =>
    cases es
    obtain ⟨p, xs, rfl, e2, e3, e4, rr⟩ := q
    exact S1.set i ⟨p, xs, rfl, e2, e3, S.b_free e4, rr⟩ fun _ p' _ z => by cases z; exact S.ns_of_free e4
theorem psd_set {i : Nat} {x : Str} {e : Expr} {f : EF} {pos pos' : Pos} (hN : X.N.Nodup) (hi : X.N[i]? = some x) (hx : Loc X.env.scope x) (h : PD X e f) (hs : swapsWith e (some (.Name x pos')) pos.line X.env = pure false := by rfl) (hf : X.fn x = true ∨ X.env.scope.names.lookup x = some .local := by first | exact .inl rfl | exact .inr rfl | assumption) : PSD X (.Assign [.Name x pos'] e pos) (gSet i f) :=
  PS.imp (ps_set hN hi hx h hs hf) fun _ _ _ q => set_run q
def frz (i : Nat) (δ : List Sl) : List Sl := match δ[i]? with
  | some (.ow ds) => δ.set i (.sh (.lst ds))
  | _ => δ
theorem Sim.frz {K : PySem.W.Frag} {B G0 G H : Hp} {δ : List Sl} {σ : L2.St} (S : Sim K B G0 G δ σ H) (i : Nat) : ∃ G', Same G G' ∧ Sim K B G0 G' (frz i δ) σ H := by
  unfold BF.frz
  cases q : δ[i]? with
  | none => exact ⟨G, Same.refl G, S⟩
  | some s =>
    cases s with
    | un => exact ⟨G, Same.refl G, S⟩
    | sh d => exact ⟨G, Same.refl G, S⟩
    | so C d => exact ⟨G, Same.refl G, S⟩
    | pt p k d => exact ⟨G, Same.refl G, S⟩
    | xc C => exact ⟨G, Same.refl G, S⟩
    | ow ds =>
      obtain ⟨p, xs, e1, e2, e3, e4, r⟩ := S.slot i _ q
      refine ⟨upd G p (.lst xs), Same.upd_new e3, ?_⟩
      have hlt : i < δ.length := (List.getElem?_eq_some_iff.mp q).1
      have own : ∀ (j : Nat) (t : Sl), (δ.set i (.sh (.lst ds)))[j]? = some t → (j = i ∧ t = .sh (.lst ds)) ∨ (j ≠ i ∧ δ[j]? = some t) := fun j t h => by
        by_cases hj : j = i
        · subst hj
          rw [List.getElem?_set_self hlt] at h
          exact .inl ⟨rfl, (Option.some.inj h).symm⟩
        · rw [List.getElem?_set_ne (Ne.symm hj)] at h
          exact .inr ⟨hj, h⟩
      refine ⟨by show (δ.set i (.sh (.lst ds))).length = σ.length; rw [List.length_set, S.len], S.bh, S.g0.trans (Same.upd_new e3), fun b u e => ?_, fun b hb => ?_, fun j t h => ?_, fun a b es fs q' hab ha hb ea eb => ?_⟩
      · by_cases z : b = p
        · subst z; rw [upd_same] at e; rw [e2]; exact e
        · rw [upd_ne z] at e; exact S.gh b u e
      · rw [upd_ne (by rintro rfl; exact hb e4)]; exact S.gb b hb
      · rcases own j t h with ⟨rfl, rfl⟩ | ⟨hj, h1⟩
        · refine ⟨.ref p, e1, ?_⟩
          unfold Rep
          exact ⟨p, xs, rfl, SqL.of upd_same, r.mono (Same.upd_new e3)⟩
        · have z := S.slot j t h1
          cases t with
          | un => trivial
          | sh d => obtain ⟨v, ev, rv⟩ := z; exact ⟨v, ev, rv.mono (Same.upd_new e3)⟩
          | ow es =>
            obtain ⟨q', ys, f1, f2, f3, f4, rr⟩ := z
            refine ⟨q', ys, f1, f2, ?_, f4, rr.mono (Same.upd_new e3)⟩
            rw [upd_ne (by rintro rfl; exact S.disj j i es ds _ hj h1 q f1 e1)]; exact f3
          | so C d => obtain ⟨v, ev, rv, zz⟩ := z; exact ⟨v, ev, rv, zz.trans (Same.upd_new e3)⟩
          | pt p' k d => obtain ⟨v, ys, ev, rv, zz, tt, l⟩ := z; exact ⟨v, ys, ev, rv.mono (Same.upd_new e3), Same.upd_new e3 _ _ zz, tt.mono (Same.upd_new e3), l⟩
          | xc C => obtain ⟨a, ev, zz⟩ := z; exact ⟨a, ev, zz.mono (Same.upd_new e3)⟩
      · rcases own a _ ha with ⟨_, z⟩ | ⟨_, h1⟩
        · cases z
        · rcases own b _ hb with ⟨_, z⟩ | ⟨_, h2⟩
          · cases z
          · exact S.disj a b es fs q' hab h1 h2 ea eb
def gFrz (is : List Nat) (g : SF) : SF := fun δ => g (is.foldl (fun δ i => frz i δ) δ)
theorem Sim.write {K : PySem.W.Frag} {B G0 G H : Hp} {δ : List Sl} {σ : L2.St} (S : Sim K B G0 G δ σ H) {i : Nat} {ds es : List Dm} {p : Addr} {ys : List V} (h : δ[i]? = some (.ow ds)) (hp : σ[i]? = some (some (.ref p))) (r : Reps K G es ys) : Sim K B G0 G (δ.set i (.ow es)) σ (upd H p (.lst ys)) := by
  obtain ⟨p', xs, e1, e2, e3, e4, _⟩ := S.slot i _ h
  rw [hp] at e1
  obtain rfl : p = p' := by injection e1 with e1; injection e1 with e1; injection e1
  have hlt : i < δ.length := (List.getElem?_eq_some_iff.mp h).1
  have own : ∀ (j : Nat) (t : Sl), (δ.set i (.ow es))[j]? = some t → (j = i ∧ t = .ow es) ∨ (j ≠ i ∧ δ[j]? = some t) := fun j t h => by
    by_cases hj : j = i
    · subst hj
      rw [List.getElem?_set_self hlt] at h
      exact .inl ⟨rfl, (Option.some.inj h).symm⟩
    · rw [List.getElem?_set_ne (Ne.symm hj)] at h
      exact .inr ⟨hj, h⟩
  refine ⟨by rw [List.length_set, S.len], fun b u e => ?_, S.g0, fun b u e => ?_, S.gb, fun j t hj => ?_, fun a b fs gs q hab ha hb ea eb => ?_⟩
  · rw [upd_ne (ne_of_none e e4)]; exact S.bh b u e
  · rw [upd_ne (ne_of_none e e3)]; exact S.gh b u e
  · rcases own j t hj with ⟨rfl, rfl⟩ | ⟨n, h1⟩
    · exact ⟨p, ys, hp, upd_same, e3, e4, r⟩
    · have z := S.slot j t h1
      cases t with
      | un => trivial
      | sh d => exact z
      | ow fs =>
        obtain ⟨q, zs, f1, f2, f3, f4, rr⟩ := z
        refine ⟨q, zs, f1, ?_, f3, f4, rr⟩
        rw [upd_ne (by rintro rfl; exact S.disj j i fs ds _ n h1 h f1 hp)]; exact f2
      | so C d => exact z
      | pt p' k d => exact z
      | xc C => exact z
  · have h1 : ∃ fs', δ[a]? = some (.ow fs') := by
      rcases own a _ ha with ⟨rfl, _⟩ | ⟨_, h1⟩
      · exact ⟨_, h⟩
      · exact ⟨_, h1⟩
    have h2 : ∃ fs', δ[b]? = some (.ow fs') := by
      rcases own b _ hb with ⟨rfl, _⟩ | ⟨_, h2⟩
      · exact ⟨_, h⟩
      · exact ⟨_, h2⟩
    obtain ⟨_, h1⟩ := h1
    obtain ⟨_, h2⟩ := h2
    exact S.disj a b _ _ q hab h1 h2 ea eb
def own? (i : Nat) (δ : List Sl) : Option (List Dm) := match δ[i]? with
  | some (.ow ds) => some ds
  | _ => none
theorem own_some {i : Nat} {δ : List Sl} {ds : List Dm} (e : own? i δ = some ds) : δ[i]? = some (.ow ds) := by
  unfold own? at e
  cases q : δ[i]? with
  | none => rw [q] at e; cases e
  | some s =>
    rw [q] at e
    cases s with
    | un => cases e
    | sh d => cases e
    | so C d => cases e
    | pt p k d => cases e
    | xc C => cases e
    | ow es => cases e; rfl
def gApp (i : Nat) (f : EF) : SF := fun δ => (own? i δ).bind fun ds => (fz f δ).bind fun r => if r.isSh && decide (ds.length < sizeLine) then some (.nx (δ.set i (.ow (ds ++ [r.dat])))) else none
theorem psd_app (i : Nat) {x : Str} {e : Expr} {f : EF} {p apos cpos pos : Pos} (hv : PE X (.Name x p) (tVar i)) (h : PD X e f) (hbase : attributeBase (.Name x p) "append" X.env (eval (.Name x p) X.env) = eval (.Name x p) X.env := by rfl)
    (hfew : ((backTo cpos (starEach [e] X.env)).all (fun x => !x.1) && (backToKw cpos (keywordEach [] X.env)).all (fun x => x.1.isSome) && decide ([e].length + ([] : List Keyword).length + (if ([] : List Keyword).isEmpty then 0 else 1) < 30)) = true := by rfl)
    (hline : (apos.endLine == cpos.line) = true := by rfl) (hs : starEach [e] X.env = (false, eval e X.env) :: starEach [] X.env := by rfl) (hsw : swapsWith (.Call (.Attribute (.Name x p) "append" apos) [e] [] cpos) none pos.line X.env = pure false := by rfl) :
    PSD X (.Expr (.Call (.Attribute (.Name x p) "append" apos) [e] [] cpos) pos) (gApp i f) := by
  refine PS.imp (ps_expr (pe_bm PySem.F.plainAttrs_list PySem.F.slot_list_append PySem.F.type_list_append mt_append hv (pad_cons h pad_nil hs) hbase hfew hline hs) hsw) fun D σ H h => ?_
  obtain ⟨B, G0, G, δ, fl, S, e, k⟩ := h
  obtain ⟨ds, eds, e⟩ := Option.bind_eq_some_iff.mp e
  obtain ⟨r, er, e⟩ := Option.bind_eq_some_iff.mp e
  have ho := own_some eds
  obtain ⟨p, xs, e1, e2, e3, e4, rr⟩ := S.slot i _ ho
  by_cases hc : (r.isSh && decide (ds.length < sizeLine)) = true
  · rw [if_pos hc] at e
    cases e
    rw [Bool.and_eq_true] at hc
    refine ⟨_, e1, .inl ⟨rfl, xs, SqL.of e2⟩, B, G0, G, δ, [r], S, ?_, fun vs G1 H1 S1 g1 q1 => ?_⟩
    · unfold fz at er
      obtain ⟨r0, er0, er⟩ := Option.map_eq_some_iff.mp er
      unfold evs evs
      rw [er0, ← er]; rfl
    · obtain ⟨v, rfl, q⟩ := RsRs.one q1
      cases r with
      | ow _ => exact absurd (show false = true from hc.1) Bool.false_ne_true
      | al _ _ => exact absurd (show false = true from hc.1) Bool.false_ne_true
      | ft _ _ => exact absurd (show false = true from hc.1) Bool.false_ne_true
      | sh d =>
        have hq : Rep X.K G1 d v := q
        have e2' := g1.hh _ _ e2
        have rr1 := rr.mono g1.gg
        refine ⟨p, xs, v, rfl, rfl, e2', by rw [← rr.length]; exact of_decide_eq_true hc.2, ?_⟩
        exact k G1 σ _ (S1.write ho e1 (rr1.append (Reps.cons hq Reps.nil))) g1.gg
  · rw [if_neg hc] at e; cases e
end
end BF
set_option Elab.async false
set_option linter.all false
set_option maxRecDepth 100000
set_option maxHeartbeats 4000000
namespace BF
open PySem PySem.Spec L2
noncomputable section
variable {X : Cx}
abbrev IF := List Sl → Option (List Dm)
def JD (K : PySem.W.Frag) (J : It) (ds : List Dm) (G : Hp) : Prop := ∀ (i : Nat) (H G1 : Hp), Same G G1 → Same G1 H →
  (∀ d, ds[i]? = some d → J.go i H ∧ ∀ x H', J.yld i H x H' → ∃ G2, Gr G1 H G2 H' ∧ Same G2 H' ∧ Rep K G2 d x) ∧ (ds.length ≤ i → J.stop i H)
def tI (K : PySem.W.Frag) (src : IF) : TI := fun σ H R => ∃ B G0 G δ ds, Sim K B G0 G δ σ H ∧ src δ = some ds ∧ ∀ J G' H', Sim K B G0 G' δ σ H' → Gr G H G' H' → JD K J ds G' → R J H'
def PID (X : Cx) (tg e : Expr) (src : IF) : Prop := PI X tg e (tI X.K src)
theorem PI.imp {tg e : Expr} {t t' : TI} (h : PI X tg e t) (i : ∀ σ H Q, t' σ H Q → t σ H Q) : PI X tg e t' := fun pins s σ H R I q => h pins s σ H R I (i σ H R q)
def shl? : Rs → Option (List Dm)
  | .sh (.lst ds) => some ds
  | _ => none
def sht? : Rs → Option (List Dm)
  | .sh (.tup ds) => some ds
  | _ => none
theorem shl_some {r : Rs} {ds : List Dm} (e : shl? r = some ds) : r = .sh (.lst ds) := by
  unfold shl? at e; split at e
  · cases e; rfl
  · cases e
theorem sht_some {r : Rs} {ds : List Dm} (e : sht? r = some ds) : r = .sh (.tup ds) := by
  unfold sht? at e; split at e
  · cases e; rfl
  · cases e
def iL (f : EF) : IF := fun δ => (fz f δ).bind shl?
def iT (f : EF) : IF := fun δ => (fz f δ).bind sht?
theorem jd_list {K : PySem.W.Frag} {G : Hp} {a : Addr} {xs : List V} {ds : List Dm} (hq : SqL K G a xs) (rr : Reps K G ds xs) : JD K (Itl K a) ds G := by
  intro i H G1 g1 g2
  have hq1 := g2.seq (g1.seq hq)
  refine ⟨fun d hd => ?_, fun hi => ⟨xs, hq1, by rw [← rr.length]; exact hi⟩⟩
  obtain ⟨v, hv, rv⟩ := rr.get hd
  refine ⟨⟨xs, v, hq1, hv⟩, fun x H' y => ?_⟩
  obtain ⟨rfl, y⟩ := y
  have := y xs hq1
  rw [hv] at this
  cases this
  exact ⟨G1, Gr.refl, g2, rv.mono g1⟩
theorem jd_tup {K : PySem.W.Frag} {G : Hp} {a : Addr} {xs : List V} {ds : List Dm} (hq : SqT K G a xs) (rr : Reps K G ds xs) : JD K (Itt K a) ds G := by
  intro i H G1 g1 g2
  have hq1 := Same.seqT g2 (Same.seqT g1 hq)
  refine ⟨fun d hd => ?_, fun hi => ⟨xs, hq1, by rw [← rr.length]; exact hi⟩⟩
  obtain ⟨v, hv, rv⟩ := rr.get hd
  refine ⟨⟨xs, v, hq1, hv⟩, fun x H' y => ?_⟩
  obtain ⟨rfl, y⟩ := y
  have := y xs hq1
  rw [hv] at this
  cases this
  exact ⟨G1, Gr.refl, g2, rv.mono g1⟩
theorem pi_l {tg e : Expr} {f : EF} (h : PD X e f) : PID X tg e (iL f) := PI.imp (pi_list h.fz) fun σ H R q => by
  obtain ⟨B, G0, G, δ, ds, S, e, k⟩ := q
  obtain ⟨r, er, e⟩ := Option.bind_eq_some_iff.mp e
  rw [shl_some e] at er
  refine ⟨B, G0, G, δ, _, S, er, fun v G1 H1 S1 g1 q1 => ?_⟩
  have q1' : Rep X.K G1 (.lst ds) v := q1
  unfold Rep at q1'
  obtain ⟨a, xs, rfl, hq, rr⟩ := q1'
  exact ⟨a, rfl, ⟨xs, S1.gh.seq hq⟩, k _ G1 H1 S1 g1 (jd_list hq rr)⟩
theorem pi_t {tg e : Expr} {f : EF} (h : PD X e f) : PID X tg e (iT f) := PI.imp (pi_tup h.fz) fun σ H R q => by
  obtain ⟨B, G0, G, δ, ds, S, e, k⟩ := q
  obtain ⟨r, er, e⟩ := Option.bind_eq_some_iff.mp e
  rw [sht_some e] at er
  refine ⟨B, G0, G, δ, _, S, er, fun v G1 H1 S1 g1 q1 => ?_⟩
  have q1' : Rep X.K G1 (.tup ds) v := q1
  unfold Rep at q1'
  obtain ⟨a, xs, rfl, hq, rr⟩ := q1'
  exact ⟨a, rfl, ⟨xs, Same.seqT S1.gh hq⟩, k _ G1 H1 S1 g1 (jd_tup hq rr)⟩
def rng (lo : Int) (n : Nat) : List Dm := (List.range n).map fun (k : Nat) => .int (lo + (k : Int))
def enumD (ds : List Dm) : List Dm := (List.range ds.length).map fun (k : Nat) => .tup [.int (k : Int), ds.getD k .non]
theorem jd_enum {K : PySem.W.Frag} {G : Hp} {a : Addr} {xs : List V} {ds : List Dm} (hq : SqL K G a xs) (rr : Reps K G ds xs) : JD K (Ite K a) (enumD ds) G := by
  intro i H G1 g1 g2
  have hq1 := g2.seq (g1.seq hq)
  have hl : (enumD ds).length = ds.length := by unfold enumD; simp
  refine ⟨fun d hd => ?_, fun hi => ⟨xs, hq1, by rw [← rr.length, ← hl]; exact hi⟩⟩
  have hin : i < ds.length := by rw [← hl]; exact (List.getElem?_eq_some_iff.mp hd).1
  have hdi : ds[i]? = some ds[i] := List.getElem?_eq_getElem hin
  obtain ⟨v, hv, rv⟩ := rr.get hdi
  refine ⟨⟨xs, v, hq1, hv⟩, fun x H' y => ?_⟩
  obtain ⟨t, ht, rfl, y, rfl, hy⟩ := y
  have := hy xs hq1
  rw [hv] at this
  cases this
  have g1t : G1 t = none := g2.free ht
  refine ⟨upd G1 t (.tup [.int i, v]), ⟨Same.upd_new g1t, Same.upd_new ht, fun b hb => upd_ne (by rintro rfl; exact hb ht)⟩, fun b u e => ?_, ?_⟩
  · by_cases z : b = t
    · subst z; rw [upd_same] at e ⊢; exact e
    · rw [upd_ne z] at e ⊢; exact g2 b u e
  · have e2 : (enumD ds)[i]? = some (.tup [.int (i : Int), ds[i]]) := by unfold enumD; simp [hin]
    rw [e2] at hd
    cases hd
    unfold Rep
    exact ⟨t, _, rfl, SqT.of upd_same, Reps.cons (by unfold Rep; rfl) (Reps.cons (rv.mono (g1.trans (Same.upd_new g1t))) Reps.nil)⟩
def iE (f : EF) : IF := fun δ => (fz f δ).bind fun r => (shl? r).map enumD
theorem pi_e {a : Expr} {f : EF} {p pos : Pos} {elts : List Expr} {x1 : Nat} {tp : Pos} (h : PD X a f) (hg : Gl X "enumerate") (hm : X.mg "enumerate" = none) (hb : bootBuiltins "enumerate" = some (.type "enumerate")) (hs : starEach [a] X.env = [(false, eval a X.env)] := by rfl) :
    PID X (.Tuple elts x1 tp) (.Call (.Name "enumerate" p) [a] [] pos) (iE f) := PI.imp (pi_enum hg hm hb (pad_cons h pad_nil hs) hs) fun σ H R q => by
  obtain ⟨B, G0, G, δ, ds, S, e, k⟩ := q
  obtain ⟨r, er, e⟩ := Option.bind_eq_some_iff.mp e
  obtain ⟨es, ees, e⟩ := Option.map_eq_some_iff.mp e
  subst e
  rw [shl_some ees] at er
  unfold fz at er
  obtain ⟨r0, er0, er⟩ := Option.map_eq_some_iff.mp er
  refine ⟨B, G0, G, δ, [r0.fz], S, by unfold evs evs; rw [er0]; rfl, fun vs G1 H1 S1 g1 q1 => ?_⟩
  obtain ⟨v, rfl, q⟩ := RsRs.one q1
  rw [er] at q
  have q1' : Rep X.K G1 (.lst es) v := q
  unfold Rep at q1'
  obtain ⟨a, xs, rfl, hq, rr⟩ := q1'
  exact ⟨a, rfl, ⟨xs, S1.gh.seq hq⟩, k _ G1 H1 S1 g1 (jd_enum hq rr)⟩
inductive Tg where
  | nm (i : Nat) | tp (is : List Nat)
def Tg.slots : Tg → List Nat
  | .nm i => [i]
  | .tp is => is
def setTs : List Nat → List Dm → List Sl → Option (List Sl)
  | [], [], δ => some δ
  | i :: is, d :: ds, δ => setTs is ds (δ.set i (.sh d))
  | _, _, _ => none
def setT : Tg → Dm → List Sl → Option (List Sl)
  | .nm i, d, δ => some (δ.set i (.sh d))
  | .tp is, .tup ds, δ => setTs is ds δ
  | _, _, _ => none
def tGD (K : PySem.W.Frag) (t : Tg) : TG := fun v σ H Q => ∃ B G0 G δ d δ', Sim K B G0 G δ σ H ∧ Rep K G d v ∧ setT t d δ = some δ' ∧ ∀ σ', Sim K B G0 G δ' σ' H → (∀ j, j ∉ t.slots → σ'[j]? = σ[j]?) → Q σ' H
def tGsD (K : PySem.W.Frag) (is : List Nat) : TGs := fun vs σ H Q => ∃ B G0 G δ ds δ', Sim K B G0 G δ σ H ∧ Reps K G ds vs ∧ setTs is ds δ = some δ' ∧ ∀ σ', Sim K B G0 G δ' σ' H → (∀ j, j ∉ is → σ'[j]? = σ[j]?) → Q σ' H
def PGD (X : Cx) (tg : Expr) (t : Tg) : Prop := PG X tg (tGD X.K t)
def PGsD (X : Cx) (ts : List Expr) (is : List Nat) : Prop := PGs X ts (tGsD X.K is)
theorem PG.imp {tg : Expr} {t t' : TG} (h : PG X tg t) (i : ∀ v σ H Q, t' v σ H Q → t v σ H Q) : PG X tg t' := fun pins s σ H v u Q I r q => h pins s σ H v u Q I r (i v σ H Q q)
theorem PGs.imp {tg : List Expr} {t t' : TGs} (h : PGs X tg t) (i : ∀ v σ H Q, t' v σ H Q → t v σ H Q) : PGs X tg t' := fun pins s σ H v u Q I r q => h pins s σ H v u Q I r (i v σ H Q q)
theorem pg_n (i : Nat) {x : Str} {pos : Pos} (hN : X.N.Nodup) (hi : X.N[i]? = some x := by rfl) (hx : Loc X.env.scope x := by first | exact Or.inl rfl | exact Or.inr rfl) (hf : X.fn x = true ∨ X.env.scope.names.lookup x = some .local := by first | exact .inl rfl | exact .inr rfl | assumption) : PGD X (.Name x pos) (.nm i) :=
  PG.imp (pg_name hN hi hx hf) fun v σ H Q h => by
    obtain ⟨B, G0, G, δ, d, δ', S, r, e, k⟩ := h
    cases e
    exact k _ (S.set i ⟨v, rfl, r⟩ fun _ _ z => by cases z) fun j hj => List.getElem?_set_ne (fun z => hj (by rw [z]; exact List.mem_singleton_self _))
theorem pgs_n : PGsD X [] [] := PGs.imp pgs_nil fun vs σ H Q h => by
  obtain ⟨B, G0, G, δ, ds, δ', S, r, e, k⟩ := h
  cases ds with
  | cons d ds => cases e
  | nil =>
    cases e
    unfold Reps at r
    exact ⟨r, k σ S fun _ _ => rfl⟩
theorem pgs_c (i : Nat) {x : Str} {pos : Pos} {es : List Expr} {is : List Nat} (h2 : PGsD X es is) (hN : X.N.Nodup) (hi : X.N[i]? = some x := by rfl) (hx : Loc X.env.scope x := by first | exact Or.inl rfl | exact Or.inr rfl) (hf : X.fn x = true ∨ X.env.scope.names.lookup x = some .local := by first | exact .inl rfl | exact .inr rfl | assumption)
    (hs : (assignEach (.Name x pos :: es) X.env).map (·.2) = assign (.Name x pos) X.env :: (assignEach es X.env).map (·.2) := by rfl) : PGsD X (.Name x pos :: es) (i :: is) := PGs.imp (pgs_cons (pg_name hN hi hx hf) h2 hs) fun vs σ H Q h => by
  obtain ⟨B, G0, G, δ, ds, δ', S, r, e, k⟩ := h
  cases ds with
  | nil => cases e
  | cons d ds =>
    unfold Reps at r
    obtain ⟨v, t, rfl, rv, rt⟩ := r
    refine ⟨v, t, rfl, B, G0, G, _, ds, δ', S.set i (s := .sh d) ⟨v, rfl, rv⟩ (fun _ _ z => by cases z), rt, e, fun σ' S' hk => k σ' S' fun j hj => ?_⟩
    rw [hk j fun z => hj (List.mem_cons_of_mem _ z)]
    exact List.getElem?_set_ne fun z => hj (by rw [z]; exact List.mem_cons_self)
theorem pg_t {es : List Expr} {k : Nat} {is : List Nat} {pos : Pos} (hc : X.calm = true) (h : PGsD X es is) (hn : (assignEach es X.env).length = is.length := by rfl) (hst : (assignEach es X.env).findIdx? (·.1) = none := by rfl) : PGD X (.Tuple es k pos) (.tp is) := PG.imp (pg_tup hc h hn hst) fun v σ H Q h => by
  obtain ⟨B, G0, G, δ, d, δ', S, r, e, k⟩ := h
  have lenTs : ∀ {is : List Nat} {ds : List Dm} {δ δ' : List Sl}, setTs is ds δ = some δ' → ds.length = is.length := by
    intro is
    induction is with
    | nil => intro ds δ δ' e; cases ds with | nil => rfl | cons d ds => cases e
    | cons i is ih => intro ds δ δ' e; cases ds with | nil => cases e | cons d ds => rw [List.length_cons, List.length_cons, ih e]
  cases d with
  | tup ds =>
    have e' : setTs is ds δ = some δ' := e
    unfold Rep at r
    obtain ⟨a, xs, rfl, hq, rr⟩ := r
    exact ⟨a, xs, rfl, Same.seqT S.gh hq, by rw [← rr.length, lenTs e'], B, G0, G, δ, ds, δ', S, rr, e', k⟩
  | non => cases e
  | bl b => cases e
  | int i => cases e
  | str z => cases e
  | lst ds => cases e
def loopD (t : Tg) (b : SF) : List Dm → List Sl → Option Fl
  | [], δ => some (.nx δ)
  | d :: r, δ => (setT t d δ).bind fun δ1 => (b δ1).bind fun fl => match fl with
    | .nx δ' => loopD t b r δ'
    | .ct δ' => loopD t b r δ'
    | .bk δ' => some (.nx δ')
    | .rt r => some (.rt r)
def gFor (src : IF) (t : Tg) (b : SF) : SF := fun δ => (src δ).bind fun ds => loopD t b ds δ
theorem psd_for {tg iter : Expr} {body : List Stmt} {pos : Pos} {src : IF} {t : Tg} {b : SF} (hp : PassesOwn (model X.prog X.w) X.A X.env X.xe) (hc : X.calm = true) (hi : PID X tg iter src) (hg : PGD X tg t) (hb : PSsD X body b)
    (hs : ∀ x, foldedSetIterable iter X.env x = pure x := by intro _; rfl) : PSD X (.For tg iter body [] pos) (gFor src t b) := PS.imp (ps_for hp hc hi hg hb hs) fun D σ H h => by
  obtain ⟨B, G0, G, δ, fl, S, e, k⟩ := h
  obtain ⟨ds, eds, e⟩ := Option.bind_eq_some_iff.mp e
  refine ⟨B, G0, G, δ, ds, S, eds, fun J G1 H1 S1 g1 jd => ?_⟩
  refine ⟨fun i m σ H => m = ds.length - i ∧ i ≤ ds.length ∧ ∃ G2 δ, Sim X.K B G0 G2 δ σ H ∧ Same G1 G2 ∧ loopD t b (ds.drop i) δ = some fl, ⟨ds.length, by simp, Nat.zero_le _, G1, δ, S1, Same.refl G1, e⟩, ?_⟩
  rintro i m σ2 H2 ⟨rfl, hi, G2, δ2, S2, g2, e2⟩
  obtain ⟨jg, js⟩ := jd i H2 G2 g2 S2.gh
  by_cases hlt : i < ds.length
  · have hd : ds[i]? = some ds[i] := List.getElem?_eq_getElem hlt
    obtain ⟨go, yl⟩ := jg _ hd
    rw [List.drop_eq_getElem_cons hlt] at e2
    obtain ⟨δ3, e3, e2⟩ := Option.bind_eq_some_iff.mp (show ((setT t ds[i] δ2).bind fun δ1 => (b δ1).bind fun fl => match fl with
      | .nx δ' => loopD t b (ds.drop (i + 1)) δ'
      | .ct δ' => loopD t b (ds.drop (i + 1)) δ'
      | .bk δ' => some (.nx δ')
      | .rt r => some (.rt r)) = some fl from e2)
    obtain ⟨f4, e4, e2⟩ := Option.bind_eq_some_iff.mp e2
    refine .inr ⟨go, fun σ' H' => ∃ G5 δ5, Sim X.K B G0 G5 δ5 σ' H' ∧ Same G1 G5 ∧ loopD t b (ds.drop (i + 1)) δ5 = some fl, fun σ' H' h => ⟨ds.length - (i + 1), by omega, rfl, hlt, h⟩, fun x H3 y => ?_⟩
    obtain ⟨G3, g3, gh3, rx⟩ := yl x H3 y
    refine ⟨B, G0, G3, δ2, ds[i], δ3, S2.ext g3 gh3, rx, e3, fun σ4 S4 _ => ⟨B, G0, G3, δ3, f4, S4, e4, ?_⟩⟩
    have g13 : Same G1 G3 := g2.trans g3.gg
    cases f4 with
    | nx δ' => exact fun G' σ' H' S' g' => ⟨G', δ', S', g13.trans g', e2⟩
    | ct δ' => exact fun G' σ' H' S' g' => ⟨G', δ', S', g13.trans g', e2⟩
    | bk δ' => cases e2; exact fun G' σ' H' S' g' => k G' σ' H' S' (g1.gg.trans (g13.trans g'))
    | rt r => cases e2; exact fun δ' G' σ' H' v S' g' q => k δ' G' σ' H' v S' (g1.gg.trans (g13.trans g')) q
  · have hi' : i = ds.length := Nat.le_antisymm hi (Nat.not_lt.mp hlt)
    subst hi'
    rw [List.drop_length] at e2
    cases e2
    exact .inl ⟨js (Nat.le_refl _), k G2 σ2 H2 S2 (g1.gg.trans g2)⟩
def subS (ix : List (Option Nat)) (δ : List Sl) : List Sl := ix.map fun o => match o with
  | some i => (δ[i]?).getD .un
  | none => .un
def Inj (ix : List (Option Nat)) : Prop := ∀ j ∈ List.range ix.length, ∀ k ∈ List.range ix.length, ix.getD j none ≠ none → ix.getD j none = ix.getD k none → j = k
instance (ix : List (Option Nat)) : Decidable (Inj ix) := by unfold Inj; infer_instance
theorem sub_at {α : Type} {ix : List (Option Nat)} {σ : List (Option α)} {j : Nat} : (sub ix σ)[j]? = (ix[j]?).map fun o => match o with | some i => (σ[i]?).join | none => none := by
  unfold sub; rw [List.getElem?_map]; try rfl
theorem subS_at {ix : List (Option Nat)} {δ : List Sl} {j : Nat} : (subS ix δ)[j]? = (ix[j]?).map fun o => match o with | some i => (δ[i]?).getD .un | none => .un := by
  unfold subS; rw [List.getElem?_map]
theorem subS_from {ix : List (Option Nat)} {δ : List Sl} {j : Nat} {s : Sl} (h : (subS ix δ)[j]? = some s) (hs : s ≠ .un) : ∃ i, ix[j]? = some (some i) ∧ δ[i]? = some s := by
  rw [subS_at] at h
  obtain ⟨o, eo, h⟩ := Option.map_eq_some_iff.mp h
  cases o with
  | none => exact absurd h.symm hs
  | some i =>
    refine ⟨i, eo, ?_⟩
    have h' : (δ[i]?).getD .un = s := h
    cases q : δ[i]? with
    | none => rw [q] at h'; exact absurd h'.symm hs
    | some t => rw [q] at h'; exact congrArg some h'
theorem Sim.sub {K : PySem.W.Frag} {B G0 G H : Hp} {δ : List Sl} {σ : L2.St} (S : Sim K B G0 G δ σ H) {ix : List (Option Nat)} (inj : Inj ix) : Sim K B G0 G (subS ix δ) (sub ix σ) H := by
  have fromσ : ∀ {j i : Nat} {v : V}, ix[j]? = some (some i) → σ[i]? = some (some v) → (BF.sub ix σ)[j]? = some (some v) := fun {j i v} e q => by
    rw [sub_at, e]
    show some ((σ[i]?).join) = _
    rw [q]; rfl
  refine ⟨by unfold subS BF.sub; rw [List.length_map, List.length_map], S.bh, S.g0, S.gh, S.gb, fun j s h => ?_, fun a b ds es p hab ha hb ea eb => ?_⟩
  · cases s with
    | un => trivial
    | sh d =>
      obtain ⟨i, e1, e2⟩ := subS_from h (by intro z; cases z)
      obtain ⟨v, e3, r⟩ := S.slot i _ e2
      exact ⟨v, fromσ e1 e3, r⟩
    | ow ds =>
      obtain ⟨i, e1, e2⟩ := subS_from h (by intro z; cases z)
      obtain ⟨p, xs, e3, r⟩ := S.slot i _ e2
      exact ⟨p, xs, fromσ e1 e3, r⟩
    | so C d =>
      obtain ⟨i, e1, e2⟩ := subS_from h (by intro z; cases z)
      obtain ⟨v, e3, r⟩ := S.slot i _ e2
      exact ⟨v, fromσ e1 e3, r⟩
    | pt p k d =>
      obtain ⟨i, e1, e2⟩ := subS_from h (by intro z; cases z)
      obtain ⟨v, xs, e3, r⟩ := S.slot i _ e2
      exact ⟨v, xs, fromσ e1 e3, r⟩
    | xc C =>
      obtain ⟨i, e1, e2⟩ := subS_from h (by intro z; cases z)
      obtain ⟨a, e3, r⟩ := S.slot i _ e2
      exact ⟨a, fromσ e1 e3, r⟩
  · obtain ⟨i, e1, e2⟩ := subS_from ha (by intro z; cases z)
    obtain ⟨j, f1, f2⟩ := subS_from hb (by intro z; cases z)
    obtain ⟨p1, xs1, e3, _⟩ := S.slot i _ e2
    obtain ⟨p2, xs2, f3, _⟩ := S.slot j _ f2
    rw [fromσ e1 e3] at ea
    rw [fromσ f1 f3] at eb
    have z1 : p1 = p := by injection ea with ea; injection ea with ea; injection ea
    have z2 : p2 = p := by injection eb with eb; injection eb with eb; injection eb
    subst z1 z2
    by_cases hij : i = j
    · subst hij
      refine hab (inj a (List.mem_range.mpr (List.getElem?_eq_some_iff.mp e1).1) b (List.mem_range.mpr (List.getElem?_eq_some_iff.mp f1).1) ?_ ?_)
      · rw [List.getD_eq_getElem?_getD, e1]; simp
      · rw [List.getD_eq_getElem?_getD, List.getD_eq_getElem?_getD, e1, f1]
    · exact S.disj i j _ _ _ hij e2 f2 e3 f3
def mapD (t : Tg) (f : EF) (δ : List Sl) : List Dm → Option (List Dm)
  | [] => some []
  | d :: r => (setT t d δ).bind fun δ1 => (fz f δ1).bind fun y => if y.isSh then (mapD t f δ r).map fun ys => y.dat :: ys else none
def fComp (src : IF) (t : Tg) (ix : List (Option Nat)) (f : EF) : EF := fun δ => (src δ).bind fun ds => if ds.length ≤ sizeLine then (mapD t f (subS ix δ) ds).map .ow else none
theorem mapD_length {t : Tg} {f : EF} {δ : List Sl} : ∀ {ds ys : List Dm}, mapD t f δ ds = some ys → ys.length = ds.length
  | [], ys, e => by cases e; rfl
  | d :: r, ys, e => by
    obtain ⟨δ1, e1, e⟩ := Option.bind_eq_some_iff.mp (show ((setT t d δ).bind fun δ1 => (fz f δ1).bind fun y => if y.isSh then (mapD t f δ r).map fun ys => y.dat :: ys else none) = some ys from e)
    obtain ⟨y, e2, e⟩ := Option.bind_eq_some_iff.mp e
    split at e
    · obtain ⟨zs, e3, e⟩ := Option.map_eq_some_iff.mp e
      subst e
      rw [List.length_cons, List.length_cons, mapD_length e3]
    · cases e
def Own (t : Tg) (ix : List (Option Nat)) : Prop := ∀ j ∈ t.slots, ix.getD j (some 0) = none
theorem comp_run {K : PySem.W.Frag} {src : IF} {t : Tg} {ix : List (Option Nat)} {f : EF} (inj : Inj ix) (own : Own t ix) {σ : L2.St} {H : Hp} {Q : VK} (h : tD K (fComp src t ix f) σ H Q) : tComp (tI K src) (tGD K t) (tD K (fz f)) ix σ H Q := by
  obtain ⟨B, G0, G, δ, r, S, e, k⟩ := h
  obtain ⟨ds, eds, e⟩ := Option.bind_eq_some_iff.mp e
  by_cases hlen : ds.length ≤ sizeLine
  case neg => rw [if_neg hlen] at e; cases e
  rw [if_pos hlen] at e
  obtain ⟨ys, eys, e⟩ := Option.map_eq_some_iff.mp e
  subst e
  have lys := mapD_length eys
  refine ⟨B, G0, G, δ, ds, S, eds, fun J G1 H1 S1 g1 jd D hD => ?_⟩
  have k1 := KD.step ⟨S, k⟩ S1 g1
  refine ⟨fun i m H2 => m = ds.length - i ∧ i ≤ ds.length ∧ ∃ G2 vs zs, Gr G1 H1 G2 H2 ∧ Same G2 H2 ∧ H2 D = some (.lst vs) ∧ G2 D = none ∧ Reps K G2 zs vs ∧ mapD t f (subS ix δ) (ds.drop i) = some (ys.drop i) ∧ zs = ys.take i, ⟨ds.length, by simp, Nat.zero_le _, G1, [], [], ⟨Same.refl G1, Same.upd_new hD, fun _ _ => rfl⟩, S1.gh.trans (Same.upd_new hD), upd_same, S1.g_free hD, Reps.nil, eys, by simp⟩, ?_⟩
  rintro i m H2 ⟨rfl, hi, G2, vs, zs, g2, gh2, e2, e3, rr, em, rfl⟩
  obtain ⟨jg, js⟩ := jd i H2 G2 g2.gg gh2
  have S2 : Sim K B G0 G2 δ σ H2 := S1.ext g2 gh2
  by_cases hlt : i < ds.length
  · have hd : ds[i]? = some ds[i] := List.getElem?_eq_getElem hlt
    obtain ⟨go, yl⟩ := jg _ hd
    rw [List.drop_eq_getElem_cons hlt] at em
    obtain ⟨δ3, e4, em⟩ := Option.bind_eq_some_iff.mp (show ((setT t ds[i] (subS ix δ)).bind fun δ1 => (fz f δ1).bind fun y => if y.isSh then (mapD t f (subS ix δ) (ds.drop (i + 1))).map fun ys => y.dat :: ys else none) = some (ys.drop i) from em)
    obtain ⟨y, e5, em⟩ := Option.bind_eq_some_iff.mp em
    by_cases hsh : y.isSh = true
    case neg => rw [if_neg hsh] at em; cases em
    rw [if_pos hsh] at em
    obtain ⟨ws, ews, em⟩ := Option.map_eq_some_iff.mp em
    have hyl : i < ys.length := by rw [lys]; exact hlt
    rw [List.drop_eq_getElem_cons hyl] at em
    have em1 : y.dat = ys[i] := by injection em
    have em2 : ws = ys.drop (i + 1) := by injection em
    refine .inr ⟨go, fun x H3 yx => ?_⟩
    obtain ⟨G3, g3, gh3, rx⟩ := yl x H3 yx
    have S3 := S2.ext g3 gh3
    refine ⟨B, G0, G3, subS ix δ, ds[i], δ3, S3.sub inj, rx, e4, fun σ4 S4 hk => ⟨fun j v hv => ?_, B, G0, G3, δ3, y, S4, e5, fun w G5 H5 S5 g5 q5 => ?_⟩⟩
    · rw [hk j fun hj => ?_]
      · exact hv
      · have := own j hj
        rw [sub_at] at hv
        obtain ⟨o, eo, hv⟩ := Option.map_eq_some_iff.mp hv
        rw [List.getD_eq_getElem?_getD, eo] at this
        have this' : o = none := this
        subst this'
        cases hv
    · have gg := g3.trans g5
      cases y with
      | ow _ => exact absurd (show false = true from hsh) Bool.false_ne_true
      | al _ _ => exact absurd (show false = true from hsh) Bool.false_ne_true
      | ft _ _ => exact absurd (show false = true from hsh) Bool.false_ne_true
      | sh dy =>
        have hq : Rep K G5 dy w := q5
        have eD : H5 D = some (.lst vs) := gg.hh _ _ e2
        have gD : G5 D = none := by rw [gg.nw D (by rw [e2]; simp)]; exact e3
        refine ⟨vs, eD, by rw [← rr.length, List.length_take]; omega, ds.length - (i + 1), by omega, rfl, hlt, G5, vs ++ [w], ys.take i ++ [dy], ⟨g2.gg.trans gg.gg, fun b u eb => ?_, fun b hb => ?_⟩, fun b u eb => ?_, upd_same, gD, (rr.mono gg.gg).append (Reps.cons hq Reps.nil), by rw [ews, em2], ?_⟩
        · rw [upd_ne (ne_of_none eb hD)]; exact gg.hh _ _ (g2.hh _ _ eb)
        · have hb2 : H2 b ≠ none := by
            cases q : H1 b with
            | none => exact absurd q hb
            | some o => rw [g2.hh b o q]; simp
          rw [gg.nw b hb2, g2.nw b hb]
        · rw [upd_ne (ne_of_none eb gD)]; exact S5.gh _ _ eb
        · have z : dy = ys[i] := em1
          rw [z, List.take_add_one, List.getElem?_eq_getElem hyl]; rfl
  · have hi' : i = ds.length := Nat.le_antisymm hi (Nat.not_lt.mp hlt)
    subst hi'
    refine .inl ⟨js (Nat.le_refl _), ?_⟩
    refine k1.out _ G2 H2 S2 g2 ⟨D, vs, rfl, e2, e3, hD, ?_⟩
    rw [← lys, List.take_length] at rr
    exact rr
theorem pd_comp {elt iter tg : Expr} {scope : Scope} {pos : Pos} {src : IF} {t : Tg} {f : EF} {N' : List Str} {ix : List (Option Nat)} (hc : X.calm = true) (ck : CompOk X.N X.env.scope scope N' ix) (inj : Inj ix) (own : Own t ix) (hi : PID X tg iter src)
    (hg : ∀ C s H fp, PGD (Xc X scope C s H fp N' XF) tg t) (he : ∀ C s H fp, PD (Xc X scope C s H fp N' XF) elt f) (hs : ∀ x, foldedSetIterable iter X.env x = pure x := by intro _; rfl) : PD X (.ListComp elt [⟨tg, iter, [], 0⟩] scope pos) (fComp src t ix f) :=
  PE.imp (pe_comp (g := tGD X.K t) (te := tD X.K (fz f)) hc ck hi hg (fun C s H fp => (he C s H fp).fz) hs) fun σ H Q h => comp_run inj own h
def bodyD (np nN : Nat) (g : SF) : FD := fun ds => if ds.length = np then (match g (ds.map Sl.sh ++ List.replicate (nN - np) Sl.un) with
  | some (.rt r) => some r
  | some (.nx _) => some (.sh .non)
  | _ => none) else none
theorem sim_start {K : PySem.W.Frag} {G H : Hp} {ds : List Dm} {vs : List V} {N : List Str} (g : Same G H) (r : Reps K G ds vs) : Sim K H G G (ds.map Sl.sh ++ List.replicate (N.length - ds.length) Sl.un) (L2.start N vs) H := by
  have hl := r.length
  refine ⟨?_, Same.refl H, Same.refl G, g, fun _ _ => rfl, fun i s h => ?_, fun i j es fs p _ h => ?_⟩
  · unfold L2.start
    simp [hl]
  · by_cases hi : i < ds.length
    · rw [List.getElem?_append_left (by simpa using hi), List.getElem?_map, List.getElem?_eq_getElem hi] at h
      cases h
      obtain ⟨v, ev, rv⟩ := r.get (List.getElem?_eq_getElem hi)
      refine ⟨v, ?_, rv⟩
      unfold L2.start
      rw [List.getElem?_append_left (by simp; omega), List.getElem?_map, ev]; rfl
    · rw [List.getElem?_append_right (by simpa using hi)] at h
      rw [List.getElem?_replicate] at h
      split at h
      · cases h; trivial
      · cases h
  · exfalso
    by_cases hi : i < ds.length
    · rw [List.getElem?_append_left (by simpa using hi), List.getElem?_map, List.getElem?_eq_getElem hi] at h
      cases h
    · rw [List.getElem?_append_right (by simpa using hi), List.getElem?_replicate] at h
      split at h
      · cases h
      · cases h
theorem fnD {P : Program} {w : World} {K : PySem.W.Frag} {mg : Str → Option Value} {base : Heap} {x qual : Str} {st : Stmt} {f : Addr} {fd : FuncData} {N ps : List Str} {k : Nat} {g : SF} (F : Fun K x qual st f fd) (S : FnScope N ps (defScope st))
    (hb : ∀ (cdv : Value) (A : Around) (outer : List Env) (s : Shared) (H : Hp) (E : XK), Room k (A.deeper (PyProof.Rows.envOfC qual (defScope st) s.heap.objs.size f cdv)) → PSsD (cxOf CX0 P w K mg base N qual (defScope st) f cdv A outer s H E).nox (defBody st) g) :
    FnOk P w K mg base CX0 (k + 1) f fd ps (spD K (bodyD ps.length N.length g)) := by
  refine F.ok S (fun vs H Q E h => ?_) (fun cdv A outer s H vs Q E hr h => ⟨_, hb cdv A outer s H E hr, ?_⟩)
  · obtain ⟨G, ds, r, _, rr, e, _⟩ := h
    unfold bodyD at e
    split at e
    · rename_i hl; rw [← rr.length, hl]
    · cases e
  · obtain ⟨G, ds, r, sm, rr, e, k⟩ := h
    unfold bodyD at e
    split at e
    case isFalse => cases e
    rename_i hl
    have S0 := sim_start (N := N) sm rr
    rw [hl] at S0
    cases q : g (ds.map Sl.sh ++ List.replicate (N.length - ps.length) Sl.un) with
    | none => rw [q] at e; cases e
    | some fl =>
      rw [q] at e
      refine ⟨H, G, G, _, fl, S0, q, ?_⟩
      cases fl with
      | rt r' =>
        cases e
        exact fun δ' G' σ' H' v S' g' ret => k v G' H' S'.bh g' S'.gh S'.gb ret
      | nx δ' =>
        cases e
        exact fun G' σ' H' S' g' => k .non G' H' S'.bh g' S'.gh S'.gb (show Rep K G' .non .non from rep_scal (d := .non) rfl)
      | bk δ' => cases e
      | ct δ' => cases e
end
end BF
set_option Elab.async false
set_option linter.all false
set_option maxRecDepth 100000
set_option maxHeartbeats 4000000
namespace BF
open PySem PySem.Spec L2
def compOkB (N : List Str) (sc scope : Scope) (N' : List Str) (ix : List (Option Nat)) : Bool :=
  scope.names.all (fun y => decide (y.2 ≠ .cell) && (decide (y.2 ≠ .local) || decide (scope.names.lookup y.1 = some .local)) && (decide (y.2 ≠ .free) || decide (sc.names.lookup y.1 = some .cell) || decide (sc.names.lookup y.1 = some .free)))
    && decide (scope.kind = .function) && decide (N'.length = ix.length) && (N'.zip ix).all (fun p => match p.2 with | none => true | some i => decide (N[i]? = some p.1) && decide (scope.names.lookup p.1 ≠ some .local)) && decide N'.Nodup
theorem compOk_mk {N : List Str} {sc scope : Scope} {N' : List Str} {ix : List (Option Nat)} (h : compOkB N sc scope N' ix = true) : CompOk N sc scope N' ix := by
  unfold compOkB at h
  simp only [Bool.and_eq_true, List.all_eq_true, decide_eq_true_eq, Bool.or_eq_true] at h
  obtain ⟨⟨⟨⟨h1, h2⟩, h3⟩, h4⟩, h5⟩ := h
  refine ⟨fun y hy => (h1 y hy).1.1, h2, fun y hy e => ?_, fun y hy e => ?_, h3, fun p hp i e => ?_, h5⟩
  · rcases (h1 y hy).1.2 with z | z
    · exact absurd e z
    · exact z
  · rcases (h1 y hy).2 with (z | z) | z
    · exact absurd e z
    · exact .inl z
    · exact .inr z
  · have := h4 p hp
    rw [e] at this
    simp only [Bool.and_eq_true, decide_eq_true_eq] at this
    exact this
theorem nd_of {N : List Str} (h : decide N.Nodup = true) : N.Nodup := of_decide_eq_true h
theorem inj_of {ix : List (Option Nat)} (h : decide (Inj ix) = true) : Inj ix := of_decide_eq_true h
theorem own_of {t : Tg} {ix : List (Option Nat)} (h : (t.slots.all fun j => decide (ix.getD j (some 0) = none)) = true) : Own t ix := fun j hj => of_decide_eq_true (List.all_eq_true.mp h j hj)
structure Def1 (K : PySem.W.Frag) (mg : Str → Option Value) (x : Str) (st : Stmt) (f : Addr) (fd : FuncData) (ps : List Str) : Prop where
  fn : Fun K x x st f fd
  mg : mg x = some (.ref f)
  bi : Binds K fd ps []
theorem Def1.mk' {K : PySem.W.Frag} {h : Heap} {mg : Str → Option Value} {x : Str} {st : Stmt} {f : Addr} {ps : List Str} {oc : Value} {od an : Option Addr} {osl : Array (Option Value)} {kV doc pm cdv ct : Value} (X : K.In h) (G : h.Ns mainGlobals mg)
    (a : PySem.W.nsIn K mainGlobals x = some (some (.ref f))) (l : K.lookup f = some ⟨oc, od, .func (PySem.W.fnOf x x (defArgs st) (defBody st) (defScope st) .none kV doc pm an cdv ct), osl⟩) (c : PySem.W.codeIn K cdv x = true) (k : PySem.W.keepIn K (.ref f) = true)
    (b : ∀ (kV doc pm : Value) (an : Option Addr) (cdv ct : Value) (us : List Value), us.length = ps.length → bindArgs (PySem.W.fnOf x x (defArgs st) (defBody st) (defScope st) .none kV doc pm an cdv ct) ⟨us, []⟩ = pure (ps.zip us)) :
    Def1 K mg x st f (PySem.W.fnOf x x (defArgs st) (defBody st) (defScope st) .none kV doc pm an cdv ct) ps :=
  ⟨fun_mk l c k, PySem.W.mg_of X G a, (fun_mk (K := K) l c k).binds b⟩
end BF
namespace BFA
open PySem PySem.W PySem.Calls PyProof.Rows
theorem bits_of_lay {ns : List Int} (h : WData.layableAll [WData.list (ns.map WData.int)] = true) : ∀ n ∈ ns, Builtin.Int.intBits n ≤ 1048576 := fun n hn => by
  have h1 := layableW_arg h _ (List.mem_singleton_self _)
  have h2 := layableW_item h1 (WData.int n) (List.mem_map_of_mem hn)
  have h3 := (layableW_iff.mp h2).2.2
  exact h3
theorem attachB {l : OpenLaw} {n : Nat} {q : Program} {loose : List Str} {XP : (Str → Option Value) → Heap → Prop} {YP : World → Heap → Prop} {d : DefRec}
    (hn : l.most = some n) (hdf : d.params.defaults = [])
    (call : ∀ (w : World) (s₀ s₁ : Shared) (mg mb : Str → Option Value) (fa : Addr) (a : Addr) (vs : List Value) (ns : List Int),
      Ground q loose [] XP w s₀ mg mb s₁.heap → YP w s₁.heap → mg d.name = some (.ref fa) →
      s₁.heap.get? a = some { cls := .type "list", data := .seq vs.toArray } → IntsAre vs ns → ns.length ≤ n → (∀ n ∈ ns, Builtin.Int.intBits n ≤ 1048576) → s₁.gens = #[] →
      codeAny (model l.prog w) callerA (.call (.ref fa) ⟨[.ref a], []⟩) (fun r s' => r = .ok (.ret (.bool true)) ∧ OldK s₁.heap s'.heap ∧ s'.os = s₁.os ∧ AllBare s'.gens) s₁) :
    WalkO q loose XP YP l.row.toRowW d [] (fun f vs => PySem.call f vs) := by
  intro w s₀ s₁ mg mb G Y fa o pm cd doc dV kV ho hd hcd hD hmg hg args vals as hpre hlay hrd hwl hlo
  obtain rfl : dV = .none := Dflts.none hD hdf
  obtain rfl : kV = .none := Dflts.noKw hD
  obtain ⟨a, vs, ns, rfl, rfl, hobj, hints, hlen⟩ := Att.script_of hn hpre hwl
  refine enter_call (codeAny_mono (call w s₀ s₁ mg mb fa a vs ns G Y hmg hobj hints hlen (bits_of_lay hlay) hg) fun r s' hq => ?_)
  obtain ⟨rfl, h2, h3, h4⟩ := hq
  exact ⟨.inl ⟨.bool true, .bool true, [], rfl, fun _ => rfl, .bool true, Att.post_true l _, fun _ => ⟨List.Pairwise.nil, fun _ hm => (nomatch hm)⟩⟩, h2, h3, h4⟩
open BF L2
theorem reps_script {K : PySem.W.Frag} {G : Hp} : ∀ (ns : List Int), Reps K G (ns.map Dm.int) (ns.map V.int)
  | [] => Reps.nil
  | n :: ns => Reps.cons (by unfold Rep; rfl) (reps_script ns)
theorem walkD {l : OpenLaw} {k : Nat} {q : Program} {loose : List Str} {XP : (Str → Option Value) → Heap → Prop} {YP : World → Heap → Prop} {d : DefRec} {K : Params → PySem.W.Frag} {x : Str} {FL : FD}
    (hn : l.most = some 63) (hdf : d.params.defaults = []) (hr : Room k callerA) (hY : ∀ (w : World) (h : Heap), YP w h → (K w.params).In h)
    (F : ∀ (w : World) (mg : Str → Option Value) (fa : Addr) (h : Heap), (K w.params).In h → h.Ns mainGlobals mg → mg d.name = some (.ref fa) →
      ∃ fd : FuncData, (∀ (s : Shared) (u : Value), BindsTo s fd ⟨[u], []⟩ [(x, u)]) ∧ ∀ base : Heap, (K w.params).In base → base.Ns mainGlobals mg → FnOk l.prog w (K w.params) mg base CX0 k fa fd [x] (spD (K w.params) FL))
    (law : ∀ ns : List Int, ns.length ≤ 63 → (∀ n ∈ ns, Builtin.Int.intBits n ≤ 1048576) → FL [.lst (ns.map .int)] = some (.sh (.bl true))) :
    WalkO q loose XP YP l.row.toRowW d [] (fun f vs => PySem.call f vs) := by
  refine attachB hn hdf fun w s₀ s₁ mg mb fa a vs ns G Y hmg hobj hints hlen hbits hg => ?_
  have KX := hY w _ Y
  obtain ⟨fd, hb, hF⟩ := F w mg fa _ KX G.T.g hmg
  refine law_call KX G.T.g G.T.b G.T.builtins G.T.nolimit hg hobj hints (Nat.le_trans hlen (by rw [sizeLine_eq]; decide)) hr hF hb (fun H hO hS => ?_) fun H e s' z => z
  refine ⟨H, _, _, Same.refl H, Reps.cons ?_ Reps.nil, law ns hlen hbits, fun v G' H' _ _ _ _ ret => ?_⟩
  · unfold Rep
    exact ⟨a, _, rfl, hS, reps_script ns⟩
  · have ret' : Rep (K w.params) G' (.bl true) v := ret
    unfold Rep at ret'
    exact ret'
end BFA
namespace BF
open PySem PySem.Spec L2
theorem bo_len : bootBuiltins "len" = some (.builtin "len") := by decide +kernel
theorem bo_min : bootBuiltins "min" = some (.builtin "min") := by decide +kernel
theorem bo_isinstance : bootBuiltins "isinstance" = some (.builtin "isinstance") := by decide +kernel
theorem bo_list : bootBuiltins "list" = some (.type "list") := by decide +kernel
theorem bo_tuple : bootBuiltins "tuple" = some (.type "tuple") := by decide +kernel
theorem bo_int : bootBuiltins "int" = some (.type "int") := by decide +kernel
theorem bo_str : bootBuiltins "str" = some (.type "str") := by decide +kernel
theorem bo_enumerate : bootBuiltins "enumerate" = some (.type "enumerate") := by decide +kernel
theorem psd_setCompF {X : Cx} {elt iter tg : Expr} {scope : Scope} {pos spos pos' : Pos} {src : IF} {t : Tg} {f : EF} {N' : List Str} {ix : List (Option Nat)} {i : Nat} {y : Str} (hc : X.calm = true) (ck : CompOk X.N X.env.scope scope N' ix) (inj : Inj ix) (own : Own t ix) (hi : PID X tg iter src)
    (hg : ∀ C s H fp, PGD (Xc X scope C s H fp N' XF) tg t) (he : ∀ C s H fp, PD (Xc X scope C s H fp N' XF) elt f) (hN : X.N.Nodup) (hiy : X.N[i]? = some y) (hy : Loc X.env.scope y)
    (hsw : swapsWith (.ListComp elt [⟨tg, iter, [], 0⟩] scope pos) (some (.Name y pos')) spos.line X.env = pure true := by rfl) (hs : ∀ x, foldedSetIterable iter X.env x = pure x := by intro _; rfl) (hf : X.fn y = true ∨ X.env.scope.names.lookup y = some .local := by first | exact .inl rfl | exact .inr rfl | assumption) :
    PSD X (.Assign [.Name y pos'] (.ListComp elt [⟨tg, iter, [], 0⟩] scope pos) spos) (gSet i (fz (fComp src t ix f))) := by
  refine PS.imp (ps_setComp (g := tGD X.K t) (te := tD X.K (fz f)) hc ck hi hg (fun C s H fp => (he C s H fp).fz) hN hiy hy hsw hs hf) fun D σ H h => ?_
  exact comp_run inj own (tD_fz (set_run h))
end BF
set_option Elab.async false
set_option linter.all false
set_option maxRecDepth 100000
set_option maxHeartbeats 4000000
namespace BF
open PySem L2
@[simp] theorem mulOk_left {a b : Int} (h1 : -(2 ^ 64) < a) (h2 : a < 2 ^ 64) : mulOk a b = true := by
  exact okB_of (IntMulOk.of_left (intBits_le_64 h1 h2))
@[simp] theorem mulOk_right {a b : Int} (h1 : -(2 ^ 64) < b) (h2 : b < 2 ^ 64) : mulOk a b = true := by
  exact okB_of (IntMulOk.of_right (intBits_le_64 h1 h2))
theorem mulOk_bits {a b : Int} {m n : Nat} (ha : Builtin.Int.intBits a ≤ m) (hb : Builtin.Int.intBits b ≤ n) (h : m + n ≤ 134217728) : mulOk a b = true := okB_of (IntMulOk.of_le ha hb h)
@[simp] theorem powOk_one {j : Int} (h1 : 0 ≤ j) (h2 : j ≤ 1000000) : powOk 1 j = true := okB_of ⟨h1, h2, by decide⟩
@[simp] theorem powOk_of {i j : Int} (h1 : 0 ≤ j) (h2 : j ≤ 1000000) (h3 : i.natAbs < 2 ^ 64) : powOk i j = true := okB_of ⟨h1, h2, h3⟩
theorem divOk_of {j : Int} (h1 : 0 < j) (h2 : j.natAbs.log2 < 9000) : divOk j = true := okB_of ⟨h1, h2⟩
@[simp] theorem divOk_small {j : Int} (h1 : 0 < j) (h2 : j < 2 ^ 64) : divOk j = true := by
  refine divOk_of h1 ?_
  have hn : j.natAbs < 2 ^ 64 := by omega
  have : j.natAbs.log2 < 64 := (Nat.log2_lt (by omega)).mpr hn
  omega
@[simp] theorem posOk_of {j : Int} (h1 : 0 < j) : posOk j = true := okB_of h1
@[simp] theorem nnOk_of {j : Int} (h1 : 0 ≤ j) : nnOk j = true := okB_of h1
theorem log2_pow (n : Nat) : ((2 : Int) ^ n).natAbs.log2 = n := by
  have e : ((2 : Int) ^ n).natAbs = 2 ^ n := by rw [Int.natAbs_pow]; rfl
  rw [e, Nat.log2_two_pow]
theorem divOk_pow {n : Nat} (h : n < 9000) : divOk (2 ^ n) = true := divOk_of (Int.pow_pos (by decide)) (by rw [log2_pow]; exact h)
theorem pow2_pos (n : Nat) : (0 : Int) < 2 ^ n := Int.pow_pos (by decide)
@[simp] theorem oI_int {C : Int → Int → Bool} {g : Int → Int → Dm} {i j : Int} : oI C g (.int i) (.int j) = if C i j = true then some (g i j) else none := rfl
@[simp] theorem int?_int {i : Int} : (Dm.int i).int? = some i := rfl
@[simp] theorem bl?_bl {b : Bool} : (Dm.bl b).bl? = some b := rfl
@[simp] theorem lst?_lst {ds : List Dm} : (Dm.lst ds).lst? = some ds := rfl
@[simp] theorem dat_sh {d : Dm} : (Rs.sh d).dat = d := rfl
@[simp] theorem dat_ow {d : List Dm} : (Rs.ow d).dat = .lst d := rfl
@[simp] theorem dat_al {i : Nat} {d : List Dm} : (Rs.al i d).dat = .lst d := rfl
@[simp] theorem fz_sh {d : Dm} : (Rs.sh d).fz = .sh d := rfl
@[simp] theorem fz_ow {d : List Dm} : (Rs.ow d).fz = .sh (.lst d) := rfl
@[simp] theorem fz_al {i : Nat} {d : List Dm} : (Rs.al i d).fz = .al i d := rfl
@[simp] theorem out_sh {d : Dm} : (Rs.sh d).out = .sh d := rfl
@[simp] theorem out_ow {d : List Dm} : (Rs.ow d).out = .ow d := rfl
@[simp] theorem out_al {i : Nat} {d : List Dm} : (Rs.al i d).out = .ow d := rfl
@[simp] theorem sl_sh {d : Dm} : (Rs.sh d).sl = some (.sh d) := rfl
@[simp] theorem sl_ow {d : List Dm} : (Rs.ow d).sl = some (.ow d) := rfl
@[simp] theorem isSh_sh {d : Dm} : (Rs.sh d).isSh = true := rfl
@[simp] theorem isSh_al {i : Nat} {d : List Dm} : (Rs.al i d).isSh = false := rfl
@[simp] theorem scal_sh {d : Dm} : (Rs.sh d).scal = d.scal := rfl
@[simp] theorem dscal_int {i : Int} : (Dm.int i).scal = true := rfl
@[simp] theorem dscal_bl {b : Bool} : (Dm.bl b).scal = true := rfl
theorem seq_nx {g1 g2 : SF} {δ δ' : List Sl} {fl : Fl} (h1 : g1 δ = some (.nx δ')) (h2 : g2 δ' = some fl) : gSeq g1 g2 δ = some fl := by unfold gSeq; rw [h1]; exact h2
theorem seq_rt {g1 g2 : SF} {δ : List Sl} {r : Rs} (h1 : g1 δ = some (.rt r)) : gSeq g1 g2 δ = some (.rt r) := by unfold gSeq; rw [h1]; rfl
theorem if_t {c : BF'} {g1 g2 : SF} {δ : List Sl} {fl : Fl} (h : c δ = some true) (h1 : g1 δ = some fl) : gIf c g1 g2 δ = some fl := by unfold gIf; rw [h]; exact h1
theorem if_f {c : BF'} {g1 g2 : SF} {δ : List Sl} {fl : Fl} (h : c δ = some false) (h1 : g2 δ = some fl) : gIf c g1 g2 δ = some fl := by unfold gIf; rw [h]; exact h1
theorem nil_nx {δ : List Sl} : BF.gNil δ = some (.nx δ) := rfl
theorem set_sh {i : Nat} {f : EF} {δ : List Sl} {d : Dm} (h : f δ = some (.sh d)) : gSet i f δ = some (.nx (δ.set i (.sh d))) := by unfold gSet; rw [h]; rfl
theorem set_ow {i : Nat} {f : EF} {δ : List Sl} {d : List Dm} (h : f δ = some (.ow d)) : gSet i f δ = some (.nx (δ.set i (.ow d))) := by unfold gSet; rw [h]; rfl
theorem set_fz {i : Nat} {f : EF} {δ : List Sl} {r : Rs} (h : f δ = some r) (hs : r.fz = .sh r.dat) : gSet i (fz f) δ = some (.nx (δ.set i (.sh r.dat))) := by unfold gSet fz; rw [h]; show (some r.fz).bind _ = _; rw [hs]; rfl
theorem ret_of {f : EF} {δ : List Sl} {r : Rs} (h : f δ = some r) : gRet f δ = some (.rt r.out) := by unfold gRet; rw [h]; rfl
theorem body_rt {np nN : Nat} {g : SF} {ds : List Dm} {δ : List Sl} {r : Rs} (hl : ds.length = np) (hδ : ds.map Sl.sh ++ List.replicate (nN - np) Sl.un = δ) (h : g δ = some (.rt r)) : bodyD np nN g ds = some r := by
  unfold bodyD
  rw [if_pos hl, hδ, h]
theorem for_of {src : IF} {t : Tg} {b : SF} {δ : List Sl} {ds : List Dm} {fl : Fl} (h : src δ = some ds) (h2 : loopD t b ds δ = some fl) : gFor src t b δ = some fl := by unfold gFor; rw [h]; exact h2
theorem call_of {F : FD} {fs : List EF} {δ : List Sl} {rs : List Rs} {r : Rs} (h1 : evs fs δ = some rs) (h2 : F (rs.map Rs.dat) = some r) (h3 : (rs.all Rs.isSh || r.scal) = true) : fCall F fs δ = some r := by unfold fCall; rw [h1]; show ((F (rs.map Rs.dat)).bind _) = _; rw [h2]; show (if _ then _ else _) = _; rw [if_pos h3]
theorem app_of {i : Nat} {f : EF} {δ : List Sl} {ds : List Dm} {r : Rs} (h1 : δ[i]? = some (.ow ds)) (h2 : f δ = some r) (h3 : r.fz.isSh = true) (h4 : ds.length < sizeLine) : gApp i f δ = some (.nx (δ.set i (.ow (ds ++ [r.dat])))) := by
  unfold gApp own?
  rw [h1]
  show (fz f δ).bind _ = _
  rw [fz_some h2]
  show (if _ then _ else _) = _
  rw [if_pos (by rw [h3, decide_eq_true h4]; rfl), Rs.fz_dat]
theorem loop_cons {t : Tg} {b : SF} {d : Dm} {r : List Dm} {δ δ1 δ2 : List Sl} {fl : Fl} (h1 : setT t d δ = some δ1) (h2 : b δ1 = some (.nx δ2)) (h3 : loopD t b r δ2 = some fl) : loopD t b (d :: r) δ = some fl := by
  unfold loopD; rw [h1]; show (b δ1).bind _ = _; rw [h2]; exact h3
theorem comp_of {src : IF} {t : Tg} {ix : List (Option Nat)} {f : EF} {δ : List Sl} {ds ys : List Dm} (h1 : src δ = some ds) (h2 : ds.length ≤ sizeLine) (h3 : mapD t f (subS ix δ) ds = some ys) : fComp src t ix f δ = some (.ow ys) := by
  unfold fComp; rw [h1]; show (if _ then _ else _) = _; rw [if_pos h2, h3]; rfl
theorem mapD_of {t : Tg} {f : EF} {δ : List Sl} (g : Dm → Dm) : ∀ {ds : List Dm}, (∀ d ∈ ds, ∃ δ1, setT t d δ = some δ1 ∧ ∃ r, f δ1 = some r ∧ r.fz = .sh (g d)) → mapD t f δ ds = some (ds.map g)
  | [], _ => rfl
  | d :: ds, h => by
    obtain ⟨δ1, e1, r, e2, e3⟩ := h d List.mem_cons_self
    unfold mapD
    rw [e1]
    show (fz f δ1).bind _ = _
    rw [fz_some e2, e3]
    show (if (Rs.sh (g d)).isSh = true then Option.map (fun ys => g d :: ys) (mapD t f δ ds) else none) = _
    rw [isSh_sh, if_pos rfl, mapD_of g fun x hx => h x (List.mem_cons_of_mem _ hx)]
    rfl
theorem natCast_mask (w : Nat) : ((2 ^ w - 1 : Nat) : Int) = 2 ^ w - 1 := by
  have h : 1 ≤ 2 ^ w := Nat.one_le_two_pow
  rw [Int.ofNat_sub h]
  push_cast
  rfl
theorem cut_to (xs : List Dm) (k : Nat) : cutD xs none (some (k : Int)) = xs.take k := by
  unfold cutD
  rw [HT.sIx_none, HT.sIx_nat, List.drop_zero, Nat.sub_zero]
  rcases Nat.le_total k xs.length with h | h
  · rw [Nat.min_eq_left h]
  · rw [Nat.min_eq_right h, List.take_of_length_le (Nat.le_refl _), List.take_of_length_le h]
theorem cut_from (xs : List Dm) (k : Nat) : cutD xs (some (k : Int)) none = xs.drop k := by
  unfold cutD
  rw [HT.sIx_none, HT.sIx_nat]
  rcases Nat.le_total k xs.length with h | h
  · rw [Nat.min_eq_left h, List.take_of_length_le (by rw [List.length_drop]; exact Nat.le_refl _)]
  · rw [Nat.min_eq_right h, Nat.sub_self, List.take_zero, List.drop_eq_nil_of_le h]
theorem cut_mid (xs : List Dm) (a b : Nat) (hab : a ≤ b) : cutD xs (some (a : Int)) (some (b : Int)) = (xs.drop a).take (b - a) := by
  unfold cutD
  rw [HT.sIx_nat, HT.sIx_nat]
  rcases Nat.le_total b xs.length with h | h
  · rw [Nat.min_eq_left h, Nat.min_eq_left (by omega)]
  · rcases Nat.le_total a xs.length with h2 | h2
    · rw [Nat.min_eq_right h, Nat.min_eq_left h2, List.take_of_length_le (by rw [List.length_drop]; exact Nat.le_refl _), List.take_of_length_le (by rw [List.length_drop]; omega)]
    · rw [Nat.min_eq_right h, Nat.min_eq_right h2, Nat.sub_self, List.take_zero, List.drop_eq_nil_of_le h2, List.take_nil]
def enumFrom : Nat → List Dm → List Dm
  | _, [] => []
  | j, d :: r => .tup [.int (j : Int), d] :: enumFrom (j + 1) r
theorem enumFrom_get : ∀ (xs : List Dm) (j i : Nat), (enumFrom j xs)[i]? = xs[i]?.map fun d => .tup [.int ((j + i : Nat) : Int), d]
  | [], j, i => by simp [enumFrom]
  | d :: r, j, 0 => by simp [enumFrom]
  | d :: r, j, i + 1 => by
    show (enumFrom (j + 1) r)[i]? = _
    rw [enumFrom_get r (j + 1) i, List.getElem?_cons_succ, show j + 1 + i = j + (i + 1) by omega]
theorem enumD_from (xs : List Dm) : enumD xs = enumFrom 0 xs := by
  refine List.ext_getElem? fun i => ?_
  rw [enumFrom_get]
  unfold enumD
  rw [List.getElem?_map]
  by_cases h : i < xs.length
  · rw [List.getElem?_eq_getElem (by simpa using h), List.getElem?_eq_getElem h]
    simp [h]
  · rw [List.getElem?_eq_none (by simpa using h), List.getElem?_eq_none (by omega)]
    rfl
theorem mapD_map {α : Type} {t : Tg} {f : EF} {δ : List Sl} (e h : α → Dm) : ∀ {l : List α}, (∀ a ∈ l, ∃ δ1, setT t (e a) δ = some δ1 ∧ ∃ r, f δ1 = some r ∧ r.fz = .sh (h a)) → mapD t f δ (l.map e) = some (l.map h)
  | [], _ => rfl
  | a :: l, H => by
    obtain ⟨δ1, e1, r, e2, e3⟩ := H a List.mem_cons_self
    rw [List.map_cons]
    unfold mapD
    rw [e1]
    show (fz f δ1).bind _ = _
    rw [fz_some e2, e3]
    show (if (Rs.sh (h a)).isSh = true then Option.map (fun ys => h a :: ys) (mapD t f δ (l.map e)) else none) = _
    rw [isSh_sh, if_pos rfl, mapD_map e h fun x hx => H x (List.mem_cons_of_mem _ hx)]
    rfl
theorem dt_of {f : EF} {δ : List Sl} {r : Rs} {d : Dm} (h : f δ = some r) (e : r.dat = d := by rfl) : dt f δ = some d := by unfold dt; rw [h, ← e]; rfl
theorem op2_of {o : Dm → Dm → Option Dm} {fa fb : EF} {δ : List Sl} {a b d : Dm} (h1 : dt fa δ = some a) (h2 : dt fb δ = some b) (h3 : o a b = some d) : op2 o fa fb δ = some (.sh d) := by unfold op2; rw [h1, Option.bind_some, h2, Option.bind_some, h3]; rfl
theorem fB_of {o : List Dm → Option Dm} {fs : List EF} {δ : List Sl} {rs : List Rs} {d : Dm} (h1 : evs fs δ = some rs) (h2 : o (rs.map Rs.dat) = some d) : fB o fs δ = some (.sh d) := by unfold fB; rw [h1, Option.bind_some, h2]; rfl
theorem evs_nil {δ : List Sl} : evs [] δ = some [] := rfl
theorem evs_cons {f : EF} {fs : List EF} {δ : List Sl} {r : Rs} {rs : List Rs} (h1 : f δ = some r) (h2 : evs fs δ = some rs) : evs (f :: fs) δ = some (r.fz :: rs) := by show (f δ).bind _ = _; rw [h1, Option.bind_some, h2]; rfl
theorem ix_of {fa fb : EF} {δ : List Sl} {a d : Dm} {i : Int} (h1 : dt fa δ = some a) (h2 : dt fb δ = some (.int i)) (h3 : ixD a i = some d) : fIx fa fb δ = some (.sh d) := by unfold fIx; rw [h1, Option.bind_some, h2, Option.bind_some, int?_int, Option.bind_some, h3]; rfl
theorem bB_of {f : EF} {δ : List Sl} {b : Bool} (h : dt f δ = some (.bl b)) : bB f δ = some b := by unfold bB; rw [h]; rfl
theorem cat_of {fa fb : EF} {δ : List Sl} {xs ys : List Dm} (h1 : dt fa δ = some (.lst xs)) (h2 : dt fb δ = some (.lst ys)) (h3 : xs.length + ys.length ≤ sizeLine) : fCat fa fb δ = some (.ow (xs ++ ys)) := by
  unfold fCat; rw [h1, Option.bind_some, h2, Option.bind_some, lst?_lst, Option.bind_some, lst?_lst, Option.bind_some, if_pos h3]
theorem sl_of {fa : EF} {lo hi : OF} {δ : List Sl} {xs : List Dm} {l u : Option Int} (h1 : dt fa δ = some (.lst xs)) (h2 : lo δ = some l) (h3 : hi δ = some u) : fSl fa lo hi δ = some (.ow (cutD xs l u)) := by
  unfold fSl; rw [h1, Option.bind_some, h2, Option.bind_some, h3, Option.bind_some]; rfl
theorem lst_of {fs : List EF} {δ : List Sl} {rs : List Rs} (h1 : evs fs δ = some rs) (h2 : rs.all Rs.isSh = true) (h3 : rs.length ≤ sizeLine) : fLst fs δ = some (.ow (rs.map Rs.dat)) := by
  unfold fLst; rw [h1, Option.bind_some, if_pos (by rw [h2, decide_eq_true h3]; rfl)]
theorem tup_of {fs : List EF} {δ : List Sl} {rs : List Rs} (h1 : evs fs δ = some rs) (h2 : rs.all Rs.isSh = true) (h3 : rs.length ≤ sizeLine) : fTup fs δ = some (.sh (.tup (rs.map Rs.dat))) := by
  unfold fTup; rw [h1, Option.bind_some, if_pos (by rw [h2, decide_eq_true h3]; rfl)]
mutual
theorem eqv_refl : ∀ d : Dm, PyData.eqv (toPy d) (toPy d) = true
  | .non => by simp [toPy, PyData.eqv]
  | .bl b => by simp [toPy, PyData.eqv]
  | .int i => by simp [toPy, PyData.eqv]
  | .str x => by simp [toPy, PyData.eqv]
  | .lst ds => by simp only [toPy, PyData.eqv]; exact eqvs_refl ds
  | .tup ds => by simp only [toPy, PyData.eqv]; exact eqvs_refl ds
theorem eqvs_refl : ∀ ds : List Dm, PyData.eqvAll (toPys ds) (toPys ds) = true
  | [] => by simp [toPys, PyData.eqvAll]
  | d :: ds => by simp only [toPys, PyData.eqvAll, Bool.and_eq_true]; exact ⟨eqv_refl d, eqvs_refl ds⟩
end
theorem oEq_same {neg : Bool} {d : Dm} (h : okEq d = true) : oEq neg d d = some (.bl (!neg)) := by
  unfold oEq
  rw [if_pos (by rw [h]; rfl)]
  have e : eqD d d = true := eqv_refl d
  rw [e]
  cases neg <;> rfl
theorem okEq_lst {ds : List Dm} (h : ∀ d ∈ ds, (toPy d).canLay0 = true ∧ (toPy d).depth ≤ 60) : okEq (.lst ds) = true := by
  have key : ∀ {ds : List Dm}, (∀ d ∈ ds, (toPy d).canLay0 = true ∧ (toPy d).depth ≤ 60) → PyData.canLayAll0 (toPys ds) = true ∧ PyData.depthAll (toPys ds) ≤ 60 := by
    intro ds
    induction ds with
    | nil => intro _; simp [toPys, PyData.canLayAll0, PyData.depthAll]
    | cons d ds ih =>
      intro h
      obtain ⟨a, b⟩ := ih fun x hx => h x (List.mem_cons_of_mem _ hx)
      obtain ⟨c, e⟩ := h d List.mem_cons_self
      simp only [toPys, PyData.canLayAll0, PyData.depthAll, Bool.and_eq_true]
      exact ⟨⟨c, a⟩, by omega⟩
  obtain ⟨a, b⟩ := key h
  simp only [okEq, toPy, PySem.SeqAt.shaped, PyData.canLay0, PyData.depth, Bool.and_eq_true, decide_eq_true_eq]
  exact ⟨a, by omega⟩
theorem not_of {f : BF'} {δ : List Sl} {b : Bool} (h : f δ = some b) : bNot f δ = some (!b) := by unfold bNot; rw [h]; rfl
theorem or_f {f g : BF'} {δ : List Sl} {b : Bool} (h : f δ = some false) (h2 : g δ = some b) : bOr f g δ = some b := by unfold bOr; rw [h]; exact h2
theorem or_t {f g : BF'} {δ : List Sl} (h : f δ = some true) : bOr f g δ = some true := by unfold bOr; rw [h]; rfl
theorem iL_of {f : EF} {δ : List Sl} {r : Rs} {ds : List Dm} (h : f δ = some r) (h2 : r.fz = .sh (.lst ds)) : iL f δ = some ds := by unfold iL; rw [fz_some h, Option.bind_some, h2]; rfl
theorem list_of {f : EF} {δ : List Sl} {ds : List Dm} (h : dt f δ = some (.lst ds)) : fList f δ = some (.ow ds) := by unfold fList; rw [h]; rfl
theorem neg_of {f : EF} {δ : List Sl} {i : Int} (h : dt f δ = some (.int i)) : fNeg f δ = some (.sh (.int (-i))) := by unfold fNeg; rw [h]; rfl
theorem not_t {f : BF'} {δ : List Sl} (h : f δ = some true) : bNot f δ = some false := not_of h
theorem not_f {f : BF'} {δ : List Sl} (h : f δ = some false) : bNot f δ = some true := not_of h
theorem ne_same {fa fb : EF} {δ : List Sl} {d : Dm} (h1 : dt fa δ = some d) (h2 : dt fb δ = some d) (h : okEq d = true) : op2 (oEq true) fa fb δ = some (.sh (.bl false)) := op2_of h1 h2 (oEq_same h)
theorem line24 : sizeLine = 16777216 := sizeLine_eq
end BF
set_option Elab.async false
set_option linter.all false
set_option maxRecDepth 100000
set_option maxHeartbeats 4000000
namespace BF
open PySem PySem.Spec PyProof.Rows L2
noncomputable section
variable {X : Cx}
theorem OpR.or {f : Value → Value → Sem Value} {r r' : R2} (h : OpR X f r) (h' : OpR X f r') : OpR X f (fun x y H Q => r x y H Q ∨ r' x y H Q) := by
  intro pins s σ H x y v u Q I rx ry q
  rcases q with q | q
  · exact h pins s σ H x y v u Q I rx ry q
  · exact h' pins s σ H x y v u Q I rx ry q
theorem PI.or {tg e : Expr} {t t' : TI} (h : PI X tg e t) (h' : PI X tg e t') : PI X tg e (fun σ H R => t σ H R ∨ t' σ H R) := fun pins s σ H R I q => q.elim (h pins s σ H R I) (h' pins s σ H R I)
theorem rep_v {K : PySem.W.Frag} {G : Hp} {d : Dm} {v : V} (h : Rep K G d v) (s : d.scal = true) : v = vOf d := by
  cases d with
  | lst ds => exact absurd (show false = true from s) Bool.false_ne_true
  | tup ds => exact absurd (show false = true from s) Bool.false_ne_true
  | _ => unfold Rep at h; exact h
theorem reps_v {K : PySem.W.Frag} {G : Hp} : ∀ {ds : List Dm} {xs : List V}, Reps K G ds xs → ds.all Dm.scal = true → xs = ds.map vOf
  | [], xs, h, _ => by unfold Reps at h; exact h
  | d :: ds, xs, h, a => by
    unfold Reps at h
    obtain ⟨v, r, e, q, t⟩ := h
    rw [List.all_cons, Bool.and_eq_true] at a
    rw [e, rep_v q a.1, reps_v t a.2]; rfl
def oScat : Dm → Dm → Option Dm
  | .str i, .str j => if i.length + j.length ≤ sizeLine then some (.str (i ++ j)) else none
  | _, _ => none
theorem op2_scat {K : PySem.W.Frag} : Op2 K (fun x y H Q => ∃ i j, x = .str i ∧ y = .str j ∧ i.length + j.length ≤ sizeLine ∧ Q (.str (i ++ j)) H) oScat := by
  intro x y H a b d Q ra rb e
  unfold oScat at e
  split at e
  · split at e
    · rename_i h
      cases e
      unfold Rep at ra rb
      exact ⟨rfl, fun q => ⟨_, _, ra, rb, h, q⟩⟩
    · cases e
  · cases e
theorem pd_scat {a b : Expr} {pos : Pos} {fa fb : EF} (ha : PD X a fa) (hb : PD X b fb) : PD X (.BinOp a .Add b pos) (op2 oScat fa fb) := pd_op2 op_add_str op2_scat ha hb
theorem flat_v {d : Dm} (h : d.scal = true) : flatV (vOf d) = true := by
  cases d with
  | lst ds => exact absurd (show false = true from h) Bool.false_ne_true
  | tup ds => exact absurd (show false = true from h) Bool.false_ne_true
  | _ => rfl
theorem flat_vs : ∀ {ds : List Dm}, ds.all Dm.scal = true → (ds.map vOf).all flatV = true
  | [], _ => rfl
  | d :: ds, h => by
    rw [List.all_cons, Bool.and_eq_true] at h
    rw [List.map_cons, List.all_cons, flat_v h.1, flat_vs h.2]; rfl
def inD (a : Dm) (ds : List Dm) : Bool := inV (vOf a) (ds.map vOf)
def inS (i j : Str) : Bool := !(Builtin.Str.occurrences j i 0 j.length 1).isEmpty
def seqs? : Dm → Option (List Dm)
  | .lst ds => some ds
  | .tup ds => some ds
  | _ => none
def strs2? : Dm → Dm → Option (Str × Str)
  | .str i, .str j => some (i, j)
  | _, _ => none
theorem strs2_some {a b : Dm} {p : Str × Str} (e : strs2? a b = some p) : a = .str p.1 ∧ b = .str p.2 := by
  unfold strs2? at e
  split at e
  · cases e; exact ⟨rfl, rfl⟩
  · cases e
def oIn (neg : Bool) : Dm → Dm → Option Dm := fun a b => match strs2? a b with
  | some p => some (.bl (if neg then !inS p.1 p.2 else inS p.1 p.2))
  | none => (seqs? b).bind fun ds => if a.scal && ds.all Dm.scal then some (.bl (if neg then !inD a ds else inD a ds)) else none
def rIn2 (K : PySem.W.Frag) (neg : Bool) : R2 := fun x y H Q => rIn K neg x y H Q ∨ ∃ i j, x = .str i ∧ y = .str j ∧ Q (.bl (if neg then !(!(Builtin.Str.occurrences j i 0 j.length 1).isEmpty) else !(Builtin.Str.occurrences j i 0 j.length 1).isEmpty)) H
theorem op_in2 : OpR X (compareOp .In) (rIn2 X.K false) := OpR.or op_in_seq op_in_str
theorem op2_in {K : PySem.W.Frag} (neg : Bool) : Op2 K (rIn2 K neg) (oIn neg) := by
  intro x y H a b d Q ra rb e
  unfold oIn at e
  cases hs : strs2? a b with
  | some p =>
    rw [hs] at e
    cases e
    obtain ⟨rfl, rfl⟩ := strs2_some hs
    unfold Rep at ra rb
    exact ⟨rfl, fun q => .inr ⟨_, _, ra, rb, q⟩⟩
  | none =>
    rw [hs] at e
    obtain ⟨ds, ed, e⟩ := Option.bind_eq_some_iff.mp e
    by_cases hc : (a.scal && ds.all Dm.scal) = true
    · rw [if_pos hc] at e
      cases e
      rw [Bool.and_eq_true] at hc
      refine ⟨rfl, fun q => .inl ?_⟩
      have ex := rep_v ra hc.1
      unfold seqs? at ed
      split at ed
      · cases ed
        unfold Rep at rb
        obtain ⟨p, xs, rfl, hq, rr⟩ := rb
        have exs := reps_v rr hc.2
        subst ex exs
        exact ⟨p, _, rfl, .inl hq, flat_v hc.1, flat_vs hc.2, q⟩
      · cases ed
        unfold Rep at rb
        obtain ⟨p, xs, rfl, hq, rr⟩ := rb
        have exs := reps_v rr hc.2
        subst ex exs
        exact ⟨p, _, rfl, .inr hq, flat_v hc.1, flat_vs hc.2, q⟩
      · cases ed
    · rw [if_neg hc] at e; cases e
section
variable {a b : Expr} {pos : Pos} {fa fb : EF}
theorem pd_in (ha : PD X a fa) (hb : PD X b fb) (hm : behindInMarks .In b = false) : PD X (.Compare a [.In] [b] pos) (op2 (oIn false) fa fb) := pd_cmp op_in2 (op2_in false) ha hb hm
theorem pt_in (ha : PD X a fa) (hb : PD X b fb) (hm : behindInMarks .In b = false) : PTD X (.Compare a [.In] [b] pos) (bB (op2 (oIn false) fa fb)) := pt_c op_in2 (op2_in false) ha hb hm
end
section
variable {a b : Expr} {pos : Pos} {fa fb : EF}
end
def rStrS : List V → Hp → VK → Prop := fun xs H Q => ∃ x, xs = [.str x] ∧ Q (.str x) H
theorem call_str_str : CallR X (.type "str") rStrS := by
  intro pins s σ H xs us Q I r h
  obtain ⟨x, rfl, q⟩ := h
  obtain ⟨u, rfl, t, rfl⟩ := vals1 r
  exact PySem.P.str_of_str ⟨.str x, H, I, ⟨_, rfl⟩, q⟩
def strI (i : Int) : Str := toString i
def oStr : List Dm → Option Dm
  | [.int i] => if i.natAbs.log2 < 1920 then some (.str (strI i)) else none
  | [.str z] => some (.str z)
  | _ => none
theorem cs_str {K : PySem.W.Frag} : CallS K (fun xs H Q => (∃ i, xs = [.int i] ∧ i.natAbs.log2 < 1920 ∧ Q (.str (toString i)) H) ∨ rStrS xs H Q) oStr := by
  intro vs H ds d Q h e
  unfold oStr at e
  split at e
  · split at e
    · rename_i hz
      cases e
      obtain ⟨v, rfl, q⟩ := reps1 h
      unfold Rep at q
      subst q
      exact ⟨rfl, fun k => .inl ⟨_, rfl, hz, k⟩⟩
    · cases e
  · cases e
    obtain ⟨v, rfl, q⟩ := reps1 h
    unfold Rep at q
    subst q
    exact ⟨rfl, fun k => .inr ⟨_, rfl, k⟩⟩
  · cases e
theorem call_strs : CallR X (.type "str") (fun xs H Q => (∃ i, xs = [.int i] ∧ i.natAbs.log2 < 1920 ∧ Q (.str (toString i)) H) ∨ rStrS xs H Q) := CallR.or call_str_int call_str_str
def rIntS : List V → Hp → VK → Prop := fun xs H Q => ∃ x n, xs = [.str x] ∧ x.length ≤ 640 ∧ intText? x = some n ∧ Q (.int n) H
theorem call_int_text : CallR X (.type "int") rIntS := by
  intro pins s σ H xs us Q I r h
  obtain ⟨x, n, rfl, hl, hn, q⟩ := h
  obtain ⟨u, rfl, t, rfl⟩ := vals1 r
  exact PySem.W.KIN.call_text hn hl ⟨.int n, H, I.tok _, ⟨_, rfl⟩, q⟩
def oInt : List Dm → Option Dm
  | [.int i] => some (.int i)
  | [.bl b] => some (.int (if b then 1 else 0))
  | [.str z] => if z.length ≤ 640 then (intText? z).map .int else none
  | _ => none
theorem call_ints : CallR X (.type "int") (fun xs H Q => ((∃ i, xs = [.int i] ∧ Q (.int i) H) ∨ ∃ k, xs = [.bl k] ∧ Q (.int (if k then 1 else 0)) H) ∨ rIntS xs H Q) := CallR.or call_int1 call_int_text
theorem cs_int {K : PySem.W.Frag} : CallS K (fun xs H Q => ((∃ i, xs = [.int i] ∧ Q (.int i) H) ∨ ∃ k, xs = [.bl k] ∧ Q (.int (if k then 1 else 0)) H) ∨ rIntS xs H Q) oInt := by
  intro vs H ds d Q h e
  unfold oInt at e
  split at e
  · cases e
    obtain ⟨v, rfl, q⟩ := reps1 h
    unfold Rep at q
    subst q
    exact ⟨rfl, fun k => .inl (.inl ⟨_, rfl, k⟩)⟩
  · cases e
    obtain ⟨v, rfl, q⟩ := reps1 h
    unfold Rep at q
    subst q
    exact ⟨rfl, fun k => .inl (.inr ⟨_, rfl, k⟩)⟩
  · split at e
    · rename_i hz
      obtain ⟨n, en, e⟩ := Option.map_eq_some_iff.mp e
      subst e
      obtain ⟨v, rfl, q⟩ := reps1 h
      unfold Rep at q
      subst q
      exact ⟨rfl, fun k => .inr ⟨_, n, rfl, hz, en, k⟩⟩
    · cases e
  · cases e
def bls? : List Dm → Option (List Bool)
  | [] => some []
  | d :: ds => d.bl?.bind fun i => (bls? ds).map fun r => i :: r
theorem bls_some : ∀ {ds : List Dm} {ns : List Bool}, bls? ds = some ns → ds = ns.map .bl
  | [], ns, e => by cases e; rfl
  | d :: ds, ns, e => by
    obtain ⟨i, ei, e⟩ := Option.bind_eq_some_iff.mp (show (d.bl?.bind fun i => (bls? ds).map fun r => i :: r) = some ns from e)
    obtain ⟨r, er, e⟩ := Option.map_eq_some_iff.mp e
    subst e
    rw [bl_some ei, bls_some er]; rfl
theorem reps_bls {K : PySem.W.Frag} {H : Hp} : ∀ {ns : List Bool} {xs : List V}, Reps K H (ns.map .bl) xs → xs = ns.map .bl
  | [], xs, h => by unfold List.map Reps at h; exact h
  | n :: ns, xs, h => by
    unfold List.map Reps at h
    obtain ⟨v, r, e, q, t⟩ := h
    unfold Rep at q
    rw [e, q, reps_bls t]; rfl
theorem vals_bls : ∀ {bs : List Bool} {us : List Value}, Vals (bs.map V.bl) us → us = bs.map Value.bool
  | [], us, h => by cases h; rfl
  | b :: bs, us, h => by
    cases h with
    | cons r t => rw [vals_bls t]; cases r; rfl
theorem all_range (bs : List Bool) : (List.range bs.length).all (fun i => bs.getD i false) = bs.all id := by
  induction bs with
  | nil => rfl
  | cons b bs ih =>
    rw [List.length_cons, List.range_succ_eq_map, List.all_cons, List.all_map, List.all_cons, ← ih]
    rfl
def rAll (K : PySem.W.Frag) (f : List Bool → Bool) : List V → Hp → VK → Prop := fun xs H Q => ∃ (p : Addr) (bs : List Bool), xs = [.ref p] ∧ SqL K H p (bs.map V.bl) ∧ Q (.bl (f bs)) H
theorem truth_bls {w : World} {prog : Program} {A : Around} (bs : List Bool) : TruthOf prog w A (fun i v => (bs.map Value.bool).toArray[i]? = some v) (fun i => bs.getD i false) := by
  intro i v s Q E hv hq
  have e : (bs.map Value.bool)[i]? = some v := by simpa using hv
  rw [List.getElem?_map] at e
  obtain ⟨b, eb, e⟩ := Option.map_eq_some_iff.mp e
  subst e
  have hq' : Q (bs.getD i false) s := hq
  rw [List.getD_eq_getElem?_getD, eb] at hq'
  exact wpAny_truthy_bool hq'
theorem call_all (hc : X.calm = true) : CallR X (.builtin "all") (rAll X.K fun bs => bs.all id) := by
  intro pins s σ H xs us Q I r h
  obtain ⟨p, bs, rfl, hq, q⟩ := h
  obtain ⟨u, rfl, rx⟩ := vals1 r
  cases rx
  obtain ⟨its, rv, pl, hz⟩ := I.list hq
  have hb := vals_bls rv
  subst hb
  have hlt : p < s.heap.objs.size := by
    obtain ⟨o, e, _⟩ := pl.isList
    exact Heap.lt_size e
  refine call_all_walk (wpAny_pyIter_list pl.isList ?_)
  refine ⟨_, _, _, _, _, _, _, rfl, Walks.list (A := X.A.in1) (I.ok.hd hc) s.heap.objs.size p (Nat.ne_of_lt hlt) (bs.map Value.bool).toArray, ?_, truth_bls bs, fun h' tk hk => ?_⟩
  · exact ⟨⟨_, Heap.get?_push_size _ rfl, rfl, rfl⟩, pl.isList.push _⟩
  · refine ⟨.bl (bs.all id), H, ?_, ?_, q⟩
    · exact I.kept fun b o e => hk b o (by simp; exact Nat.ne_of_lt (Heap.lt_size e)) (Heap.get?_push_of_some _ e)
    · have : (bs.map Value.bool).toArray.size = bs.length := by simp
      rw [this, all_range]
      rfl
def oAll (f : List Bool → Bool) : List Dm → Option Dm
  | [.lst ds] => (bls? ds).map fun bs => .bl (f bs)
  | _ => none
theorem cs_all {K : PySem.W.Frag} {f : List Bool → Bool} : CallS K (rAll K f) (oAll f) := by
  intro vs H ds d Q h e
  unfold oAll at e
  split at e
  · obtain ⟨ns, en, e⟩ := Option.map_eq_some_iff.mp e
    subst e
    obtain ⟨v, rfl, q⟩ := reps1 h
    unfold Rep at q
    obtain ⟨a, xs, rfl, hq, rr⟩ := q
    rw [bls_some en] at rr
    exact ⟨rfl, fun k => ⟨a, ns, rfl, by rw [← reps_bls rr]; exact hq, k⟩⟩
  · cases e
def fTuple (f : EF) : EF := fun δ => (fz f δ).bind fun r => (seqs? r.dat).bind fun ds => match r with
  | .al _ _ => some (.sh (.tup ds))
  | _ => some (.sh (.tup ds))
theorem pd_tuple {e : Expr} {f : EF} {p pos : Pos} (h : PD X e f) (hg : Gl X "tuple") (hm : X.mg "tuple" = none) (hv : bootBuiltins "tuple" = some (.type "tuple")) (he : starEach [e] X.env = (false, eval e X.env) :: starEach [] X.env := by rfl) : PD X (.Call (.Name "tuple" p) [e] [] pos) (fTuple f) := by
  refine PE.imp (pe_callTy call_tuple_of hg hm hv (pad_cons h pad_nil he) (by decide +kernel) (by decide +kernel) he) fun σ H Q h => ?_
  obtain ⟨B, G0, G, δ, r0, S, e, k⟩ := h
  obtain ⟨r, er, e⟩ := Option.bind_eq_some_iff.mp e
  obtain ⟨ds, eds, e⟩ := Option.bind_eq_some_iff.mp e
  obtain ⟨ra, era, er⟩ := Option.map_eq_some_iff.mp er
  subst er
  have e' : r0 = .sh (.tup ds) := by split at e <;> exact (Option.some.inj e).symm
  subst e'
  refine ⟨B, G0, G, δ, [ra.fz], S, by unfold evs evs; rw [era]; rfl, fun vs G1 H1 S1 g1 q1 => ?_⟩
  obtain ⟨v, rfl, q⟩ := RsRs.one q1
  have k1 := KD.step ⟨S, k⟩ S1 g1
  cases hd : ra.fz.dat with
  | lst es =>
    rw [hd] at eds; cases eds
    obtain ⟨a, xs, rfl, hq, rr⟩ := RsR.lst S1 q hd
    exact ⟨a, xs, rfl, .inl ⟨hq, fun l hl => k1.newT rr hl⟩⟩
  | tup es =>
    rw [hd] at eds; cases eds
    have hsh : ra.fz = .sh (.tup ds) := by
      cases hr : ra.fz with
      | sh d => rw [hr] at hd; rw [show d = .tup ds from hd]
      | ow xs => rw [hr] at hd; cases hd
      | al i xs => rw [hr] at hd; cases hd
      | ft pre es => have z := ra.fz_still; rw [hr] at z; cases z
    obtain ⟨a, xs, rfl, hq, rr⟩ := RsR.tup S1 q (by cases ra <;> rfl) hd
    rw [hsh] at q
    exact ⟨a, xs, rfl, .inr ⟨hq, k1.now q⟩⟩
  | non => rw [hd] at eds; cases eds
  | bl b => rw [hd] at eds; cases eds
  | int i => rw [hd] at eds; cases eds
  | str z => rw [hd] at eds; cases eds
def fM (o : Dm → List Dm → Option Dm) (fa : EF) (fs : List EF) : EF := fun δ => (dt fa δ).bind fun a => (evs fs δ).bind fun rs => (o a (rs.map Rs.dat)).map .sh
def MtS (K : PySem.W.Frag) (r : V → List V → Hp → VK → Prop) (o : Dm → List Dm → Option Dm) : Prop := ∀ x vs H a ds d Q, Rep K H a x → Reps K H ds vs → o a ds = some d → (∃ z, a = .str z) ∧ d.scal = true ∧ (Q (vOf d) H → r x vs H Q)
theorem fM_run {K : PySem.W.Frag} {r : V → List V → Hp → VK → Prop} {o : Dm → List Dm → Option Dm} {fa : EF} {fs : List EF} (hs : MtS K r o) (hz : ∀ a ds d, o a ds = some d → ∃ z, a = .str z) {σ : L2.St} {H : Hp} {Q : VK} (h : tD K (fM o fa fs) σ H Q) : tBM K "str" r (tD K (fz fa)) (tAD K fs) σ H Q := by
  obtain ⟨B, G0, G, δ, r0, S, e, k⟩ := h
  obtain ⟨a, ea, e⟩ := Option.bind_eq_some_iff.mp e
  obtain ⟨ra, era, rfl⟩ := dt_some ea
  obtain ⟨rs, ers, e⟩ := Option.bind_eq_some_iff.mp e
  obtain ⟨d, ed, e⟩ := Option.map_eq_some_iff.mp e
  subst e
  obtain ⟨z, ez⟩ := hz _ _ _ ed
  refine run1 ⟨S, k⟩ era fun x G1 H1 k1 g1 q1 => ?_
  have r1 := RsR.rep k1.sim q1
  rw [Rs.fz_dat, ez] at r1
  unfold Rep at r1
  subst r1
  refine ⟨rfl, B, G0, G1, δ, rs, k1.sim, ers, fun vs G2 H2 S2 g2 q2 => ?_⟩
  have k2 := k1.step S2 g2
  obtain ⟨_, sc, go⟩ := hs (.str z) vs H2 ra.dat _ d Q (by rw [ez]; unfold Rep; rfl) (RsRs.repsH S2 q2) ed
  exact go (k2.now (rep_scal sc))
theorem pd_m {o e : Expr} {es : List Expr} {name : Str} {id : String} {apos cpos : Pos} {r : V → List V → Hp → VK → Prop} {op : Dm → List Dm → Option Dm} {fa : EF} {fs : List EF} (slot : Slot "str" name id) (hty : typeOf (.builtin id) = pure (.type "method_descriptor")) (hm : MtR X id r) (hs : MtS X.K r op) (hz : ∀ a ds d, op a ds = some d → ∃ z, a = .str z) (ho : PD X o fa) (ha : PAD X (e :: es) fs)
    (hbase : attributeBase o name X.env (eval o X.env) = eval o X.env := by rfl)
    (hfew : ((backTo cpos (starEach (e :: es) X.env)).all (fun x => !x.1) && (backToKw cpos (keywordEach [] X.env)).all (fun x => x.1.isSome)
      && decide ((e :: es).length + ([] : List Keyword).length + (if ([] : List Keyword).isEmpty then 0 else 1) < 30)) = true := by rfl)
    (hline : (apos.endLine == cpos.line) = true := by rfl) (hst : starEach (e :: es) X.env = (false, eval e X.env) :: starEach es X.env := by rfl) (hplain : (backTo cpos (starEach es X.env)).any (·.1) = false := by rfl) :
    PD X (.Call (.Attribute o name apos) (e :: es) [] cpos) (fM op fa fs) :=
  PE.imp (pe_bm PySem.F.plainAttrs_str slot hty hm ho.fz ha hbase hfew hline hst hplain) fun _ _ _ h => fM_run hs hz h
def strsD? : List Dm → Option (List Str)
  | [] => some []
  | .str z :: ds => (strsD? ds).map fun r => z :: r
  | _ :: _ => none
theorem strsD_some : ∀ {ds : List Dm} {ns : List Str}, strsD? ds = some ns → ds = ns.map .str
  | [], ns, e => by cases e; rfl
  | .str z :: ds, ns, e => by
    obtain ⟨r, er, e⟩ := Option.map_eq_some_iff.mp (show ((strsD? ds).map fun r => z :: r) = some ns from e)
    subst e
    rw [strsD_some er]; rfl
  | .non :: ds, ns, e => by cases e
  | .bl _ :: ds, ns, e => by cases e
  | .int _ :: ds, ns, e => by cases e
  | .lst _ :: ds, ns, e => by cases e
  | .tup _ :: ds, ns, e => by cases e
theorem reps_strs {K : PySem.W.Frag} {H : Hp} : ∀ {ns : List Str} {xs : List V}, Reps K H (ns.map .str) xs → xs = ns.map .str
  | [], xs, h => by unfold List.map Reps at h; exact h
  | n :: ns, xs, h => by
    unfold List.map Reps at h
    obtain ⟨v, r, e, q, t⟩ := h
    unfold Rep at q
    rw [e, q, reps_strs t]; rfl
theorem strsAre_of : ∀ {ys : List Str} {us : List Value}, Vals (ys.map V.str) us → StrsAre us ys
  | [], us, h => by cases h; exact .nil
  | y :: ys, us, h => by
    cases h with
    | cons r t => obtain ⟨k, rfl⟩ := r; exact .cons y k (strsAre_of t)
def rJoin (K : PySem.W.Frag) : V → List V → Hp → VK → Prop := fun x xs H Q => ∃ z p ys, x = .str z ∧ xs = [.ref p] ∧ SqL K H p (ys.map V.str) ∧ (ys.map (·.length)).sum + ys.length * z.length ≤ 16777216 ∧ Q (.str (Txt.join z ys)) H
theorem mt_join : MtR X "str.join" (rJoin X.K) := by
  intro pins s σ H x xs v us Q I rx rv h
  obtain ⟨z, p, ys, rfl, rfl, hq, hl, q⟩ := h
  obtain ⟨t, rfl⟩ := rx
  obtain ⟨u, rfl, ru⟩ := vals1 rv
  cases ru
  obtain ⟨its, r, pl, _⟩ := I.list hq
  exact join_list pl.isList (by simpa using strsAre_of r) hl fun t' k => ⟨.str _, H, I.tok _, ⟨_, rfl⟩, q⟩
def oJoin : Dm → List Dm → Option Dm
  | .str z, [.lst ds] => (strsD? ds).bind fun ys => if (ys.map (·.length)).sum + ys.length * z.length ≤ 16777216 then some (.str (Txt.join z ys)) else none
  | _, _ => none
theorem ms_join {K : PySem.W.Frag} : MtS K (rJoin K) oJoin := by
  intro x vs H a ds d Q ra rs e
  unfold oJoin at e
  split at e
  · obtain ⟨ys, ey, e⟩ := Option.bind_eq_some_iff.mp e
    split at e
    · rename_i hl
      cases e
      obtain ⟨v, rfl, q⟩ := reps1 rs
      unfold Rep at ra q
      obtain ⟨p, xs, rfl, hq, rr⟩ := q
      rw [strsD_some ey] at rr
      exact ⟨⟨_, rfl⟩, rfl, fun k => ⟨_, p, ys, ra, rfl, by rw [← reps_strs rr]; exact hq, hl, k⟩⟩
    · cases e
  · cases e
theorem oJoin_str : ∀ a ds d, oJoin a ds = some d → ∃ z, a = .str z := by
  intro a ds d e
  unfold oJoin at e
  split at e
  · exact ⟨_, rfl⟩
  · cases e
def fSplit (fa fb : EF) : EF := fun δ => (dt fa δ).bind fun a => (dt fb δ).bind fun b => (strs2? a b).bind fun p => if (p.2.length == 0) = false ∧ p.1.length + 2 ≤ sizeLine then some (.ow ((Txt.split p.1 p.2).map .str)) else none
def rSplit : V → List V → Hp → VK → Prop := fun x xs H Q => ∃ z y, x = .str z ∧ xs = [.str y] ∧ (y.length == 0) = false ∧ z.length + 2 ≤ sizeLine ∧ ∀ l, H l = none → Q (.ref l) (upd H l (.lst ((Txt.split z y).map V.str)))
theorem vals_strs : ∀ (l : List (Str × Tok)), Vals ((l.map (·.1)).map V.str) (strValues l)
  | [] => .nil
  | (z, t) :: l => .cons ⟨t, rfl⟩ (vals_strs l)
theorem mt_split : MtR X "str.split" rSplit := by
  intro pins s σ H x xs v us Q I rx rv h
  obtain ⟨z, y, rfl, rfl, hy, hz, q⟩ := h
  obtain ⟨t, rfl⟩ := rx
  obtain ⟨u, rfl, ru⟩ := vals1 rv
  obtain ⟨t', rfl⟩ := ru
  have fin : ∀ (l : List (Str × Tok)) (k : Nat), l.map (·.1) = Txt.split z y → l.length ≤ sizeLine → EP X pins σ Q (.ref s.heap.objs.size) { s with heap := s.heap.push { cls := .type "list", data := .seq (strValues l).toArray }, toks := k } := fun l k e hl => by
    have hv := vals_strs l
    rw [e] at hv
    refine ⟨.ref _, _, I.lnew (t' := k) hv ?_, rfl, q _ I.fresh⟩
    rw [← e, List.length_map, List.length_map]; exact hl
  have one : ([(z, t)] : List (Str × Tok)).length ≤ sizeLine := by show 1 ≤ sizeLine; rw [sizeLine_eq]; decide
  have hn : (Builtin.Str.partsBetween z (Builtin.Str.occurrences z y 0 z.length (z.length + 1)) y.length).length ≤ sizeLine := by
    have b := StrLaws.occ_length_le z y 0 z.length (z.length + 1)
    rw [length_partsBetween]
    omega
  by_cases h1 : (decide (z.length < y.length) || decide (Builtin.Str.strKind z < Builtin.Str.strKind y)) = true
  · exact call_meets F.slot_str_split (typeIs_str _ _ _) F.entry_str_split (F.args_str_split_2 _ _) (meets_str_split_cannot_occur z y t t' h1) (fin [(z, t)] s.toks (if_pos h1).symm one)
  · have h1' := Bool.eq_false_iff.mpr h1
    by_cases hf : (Builtin.Str.occurrences z y 0 z.length (z.length + 1)).isEmpty = true
    · exact call_meets F.slot_str_split (typeIs_str _ _ _) F.entry_str_split (F.args_str_split_2 _ _) (meets_str_split_not_found z y t t' h1' hy hf) (fin [(z, t)] s.toks ((if_neg h1).trans (if_pos hf)).symm one)
    · refine call_meets F.slot_str_split (typeIs_str _ _ _) F.entry_str_split (F.args_str_split_2 _ _) (meets_str_split_sep z y t t' h1' hy (Bool.eq_false_iff.mpr hf) (by omega) hn) ?_
      have e := strsFrom_eq s.toks (Builtin.Str.partsBetween z (Builtin.Str.occurrences z y 0 z.length (z.length + 1)) y.length)
      have g := fin (numbered s.toks (Builtin.Str.partsBetween z (Builtin.Str.occurrences z y 0 z.length (z.length + 1)) y.length)) (s.toks + (Builtin.Str.partsBetween z (Builtin.Str.occurrences z y 0 z.length (z.length + 1)) y.length).length) ((numbered_texts _ _).trans ((if_neg h1).trans (if_neg hf)).symm) (by
        have := congrArg List.length (numbered_texts s.toks (Builtin.Str.partsBetween z (Builtin.Str.occurrences z y 0 z.length (z.length + 1)) y.length))
        rw [List.length_map] at this
        rw [this]; exact hn)
      rw [← e] at g
      exact g
theorem pd_split {o e : Expr} {apos cpos : Pos} {fa fb : EF} (ho : PD X o fa) (he : PD X e fb)
    (hbase : attributeBase o "split" X.env (eval o X.env) = eval o X.env := by rfl)
    (hfew : ((backTo cpos (starEach [e] X.env)).all (fun x => !x.1) && (backToKw cpos (keywordEach [] X.env)).all (fun x => x.1.isSome)
      && decide ([e].length + ([] : List Keyword).length + (if ([] : List Keyword).isEmpty then 0 else 1) < 30)) = true := by rfl)
    (hline : (apos.endLine == cpos.line) = true := by rfl) (hst : starEach [e] X.env = (false, eval e X.env) :: starEach [] X.env := by rfl) :
    PD X (.Call (.Attribute o "split" apos) [e] [] cpos) (fSplit fa fb) :=
  PE.imp (pe_bm PySem.F.plainAttrs_str PySem.F.slot_str_split PySem.F.type_str_split mt_split ho.fz (pad_cons he pad_nil hst) hbase hfew hline hst) fun σ H Q h => by
    obtain ⟨B, G0, G, δ, r0, S, e, k⟩ := h
    obtain ⟨a, ea, e⟩ := Option.bind_eq_some_iff.mp e
    obtain ⟨ra, era, rfl⟩ := dt_some ea
    obtain ⟨b, eb, e⟩ := Option.bind_eq_some_iff.mp e
    obtain ⟨rb, erb, rfl⟩ := dt_some eb
    obtain ⟨p, ep, e⟩ := Option.bind_eq_some_iff.mp e
    obtain ⟨e1, e2⟩ := strs2_some ep
    by_cases hc : (p.2.length == 0) = false ∧ p.1.length + 2 ≤ sizeLine
    · rw [if_pos hc] at e
      cases e
      refine run1 ⟨S, k⟩ era fun x G1 H1 k1 g1 q1 => ?_
      have r1 := RsR.rep k1.sim q1
      rw [Rs.fz_dat, e1] at r1
      unfold Rep at r1
      subst r1
      refine ⟨rfl, B, G0, G1, δ, [rb.fz], k1.sim, by unfold evs evs; rw [erb]; rfl, fun vs G2 H2 S2 g2 q2 => ?_⟩
      have k2 := k1.step S2 g2
      obtain ⟨v, rfl, q⟩ := RsRs.one q2
      have r2 := RsR.rep S2 q
      rw [Rs.fz_dat, e2] at r2
      unfold Rep at r2
      subst r2
      refine ⟨p.1, p.2, rfl, rfl, hc.1, hc.2, fun l hl => k2.newL ?_ hl⟩
      have all : ∀ zs : List Str, Reps X.K G2 (zs.map Dm.str) (zs.map V.str) := fun zs => by
        induction zs with
        | nil => exact Reps.nil
        | cons z zs ih => exact Reps.cons (by unfold Rep; rfl) ih
      exact all _
    · rw [if_neg hc] at e; cases e
def signs (z : Str) : List Dm := z.cps.toList.map fun c => .str ⟨#[c]⟩
def Its (z : Str) : It := ⟨fun i _ => i < z.cps.size, fun i H x H' => H' = H ∧ ∃ c, z.cps[i]? = some c ∧ x = .str ⟨#[c]⟩, fun i _ => z.cps.size ≤ i⟩
theorem turn_str {P : Program} {w : World} {K : PySem.W.Frag} {tg : Expr} (z : Str) (t : Tok) (it : Addr) (kd : String) (hk : kd = "str_ascii_iterator" ∨ kd = "str_iterator") : Turn P w K tg (Its z) [it] it (fun i h => h.IsStrIter it kd z t i) where
  mem := by simp
  obj := fun i h st b hb => by
    have e : b = it := by simpa using hb
    subst e
    obtain ⟨o, e, c, d⟩ := st
    exact ⟨o, e, fun v z => by rw [d] at z; cases z⟩
  keep := fun i h h' st k => let ⟨o, ho, r⟩ := st; ⟨o, k it (by simp) o ho, r⟩
  item := by
    intro X hP hw hK hc i pins s σ H E I hf st hg
    subst hP hw hK
    obtain ⟨f0, f1, f2, f3, f4, f5⟩ := hf it (by simp)
    have go : ∀ (W : Walks X.prog X.w X.A it [it] [it] z.cps.size (SignAt z) (fun i h => h.IsStrIter it kd z t i)), wpAny (model X.prog X.w) X.A (pyNext (.ref it)) (fun r s1 => ∃ u, r = some u ∧
      wpAny (model X.prog X.w) X.A (letOwnedTupleGo tg (.ref it) u) (fun _ s2 => ∃ x H', Inv X pins σ H' s2 ∧ RelV x u ∧ (Its z).yld i H x H' ∧ s2.heap.IsStrIter it kd z t (i + 1) ∧ ∀ b ∈ [it], H' b = none) E s1) E s := fun W => by
      refine W.item i s _ _ hg st fun v h' tk hv st' kk => ?_
      obtain ⟨c, u, hcz, rfl⟩ := hv
      have I1 : Inv X pins σ H { s with heap := h', toks := tk } := I.turned (fun b o hb e => kk b o (by simpa using hb) e) f0 f1 f3 f4 f5
      obtain ⟨o, e, ec, ed⟩ := id st'
      exact ⟨_, rfl, go_of (s := { s with heap := h', toks := tk }) e ec ed (by rcases hk with rfl | rfl <;> decide) ⟨.str ⟨#[c]⟩, H, I1, ⟨u, rfl⟩, ⟨rfl, c, hcz, rfl⟩, st', fun b hb => (hf b hb).1⟩⟩
    rcases hk with rfl | rfl
    · exact go (Walks.strAscii (I.ok.hd hc) it z t)
    · exact go (Walks.strWide (I.ok.hd hc) it z t)
  done := by
    intro X hP hw hK hc i pins s σ H E I hf st hg
    subst hP hw hK
    obtain ⟨f0, f1, f2, f3, f4, f5⟩ := hf it (by simp)
    have hnone : z.cps[i]? = none := by
      have hg' : z.cps.size ≤ i := hg
      simp [hg']
    rcases hk with rfl | rfl
    · exact wpAny_pyNext_ascii_end (I.ok.hd hc) st hnone fun h' eb => ⟨rfl, I.turned (t' := s.toks) (fun b o hb e => eb b o hb e) f0 f1 f3 f4 f5⟩
    · exact wpAny_pyNext_wide_end (I.ok.hd hc) st hnone fun h' eb => ⟨rfl, I.turned (t' := s.toks) (fun b o hb e => eb b o hb e) f0 f1 f3 f4 f5⟩
  self := fun _ _ _ _ _ st h => by
    rcases hk with rfl | rfl
    · exact wpAny_pyIter_striter_ascii st h
    · exact wpAny_pyIter_striter_wide st h
def iStr0 (te : TE) : TI := fun σ H R => te σ H fun x H1 => ∃ z, x = .str z ∧ R (Its z) H1
theorem pi_str0 {tg l : Expr} {tl : TE} (hl : PE X l tl) : PI X tg l (iStr0 tl) := by
  intro pins s σ H R I h
  refine thn (hl pins s σ H _ I h) fun v s1 ⟨x, H1, I1, r1, q1⟩ => ?_
  obtain ⟨z, rfl, q⟩ := q1
  obtain ⟨t, rfl⟩ := r1
  have fin : ∀ (o : Obj) (kd : String), (kd = "str_ascii_iterator" ∨ kd = "str_iterator") → (s1.heap.push o).IsStrIter s1.heap.objs.size kd z t 0 → PIE X pins σ tg R (.ref s1.heap.objs.size) { s1 with heap := s1.heap.push o } := fun o kd hk st =>
    ⟨_, [s1.heap.objs.size], _, _, H1, rfl, I1.kept (t' := s1.toks) fun b ob e => Heap.get?_push_of_some _ e, turn_str z t _ kd hk, st, fun b hb => by
      have eb : b = s1.heap.objs.size := by simpa using hb
      subst eb
      exact I1.fpOk (Nat.le_refl _) (I1.hok.fresh (Nat.le_refl _)), q⟩
  cases ha : z.cps.all (· < 128)
  · exact wpAny_pyIter_wide ha (fin _ _ (.inr rfl) ⟨_, Heap.get?_push_size _ rfl, rfl, rfl⟩)
  · exact wpAny_pyIter_ascii ha (fin _ _ (.inl rfl) ⟨_, Heap.get?_push_size _ rfl, rfl, rfl⟩)
theorem jd_str {K : PySem.W.Frag} {G : Hp} {z : Str} : JD K (Its z) (signs z) G := by
  intro i H G1 g1 g2
  have hl : (signs z).length = z.cps.size := by unfold signs; simp
  refine ⟨fun d hd => ?_, fun hi => by rw [hl] at hi; exact hi⟩
  have hin : i < z.cps.size := by rw [← hl]; exact (List.getElem?_eq_some_iff.mp hd).1
  refine ⟨hin, fun x H' y => ?_⟩
  obtain ⟨rfl, c, hc, rfl⟩ := y
  refine ⟨G1, Gr.refl, g2, ?_⟩
  unfold signs at hd
  rw [List.getElem?_map, Array.getElem?_toList, hc] at hd
  cases hd
  unfold Rep; rfl
def walk? : Rs → Option (List Dm)
  | .sh (.lst ds) => some ds
  | .sh (.tup ds) => some ds
  | .sh (.str z) => some (signs z)
  | _ => none
def iS (f : EF) : IF := fun δ => (fz f δ).bind walk?
theorem pi_s {tg e : Expr} {f : EF} (h : PD X e f) : PID X tg e (iS f) := PI.imp (PI.or (pi_l h) (PI.or (pi_t h) (pi_str0 h.fz))) fun σ H R q => by
  obtain ⟨B, G0, G, δ, ds, S, e, k⟩ := q
  obtain ⟨r, er, e⟩ := Option.bind_eq_some_iff.mp e
  unfold walk? at e
  split at e
  · cases e
    exact .inl ⟨B, G0, G, δ, _, S, by unfold iL; rw [er]; rfl, k⟩
  · cases e
    exact .inr (.inl ⟨B, G0, G, δ, _, S, by unfold iT; rw [er]; rfl, k⟩)
  · cases e
    refine .inr (.inr ⟨B, G0, G, δ, _, S, er, fun v G1 H1 S1 g1 q1 => ?_⟩)
    have q1' : Rep X.K G1 (.str _) v := q1
    unfold Rep at q1'
    exact ⟨_, q1', k _ G1 H1 S1 g1 jd_str⟩
  · cases e
theorem pd_glob {x : Str} {u : Value} {d : Dm} {pos : Pos} (hg : Gl X x) (hm : X.mg x = some u) (hs : d.scal = true) (r : RelV (vOf d) u) (hd : (x == ("__debug__" : Str)) = false := by decide +kernel) : PD X (.Name x pos) (fC d) := PE.imp (pe_glob hg hm r hd) fun σ H Q h => by
  obtain ⟨B, G0, G, δ, r, S, e, k⟩ := h
  cases e
  exact k _ G H S Gr.refl (rep_scal hs)
end
end BF
set_option Elab.async false
set_option linter.all false
set_option maxRecDepth 100000
set_option maxHeartbeats 4000000
namespace BF
open PySem PySem.Spec PyProof.Rows L2
noncomputable section
variable {X : Cx}
def Itz (K : PySem.W.Frag) (a b : Addr) : It :=
  ⟨fun i H => ∃ xs ys x y, SqL K H a xs ∧ SqL K H b ys ∧ xs[i]? = some x ∧ ys[i]? = some y,
   fun i H z H' => ∃ t, H t = none ∧ z = .ref t ∧ ∃ x y, H' = upd H t (.tup [x, y]) ∧ (∀ xs, SqL K H a xs → xs[i]? = some x) ∧ ∀ ys, SqL K H b ys → ys[i]? = some y,
   fun i H => ∃ xs ys, SqL K H a xs ∧ SqL K H b ys ∧ (xs.length ≤ i ∨ ys.length ≤ i)⟩
theorem turn_zip {P : Program} {w : World} {K : PySem.W.Frag} {elts : List Expr} {x1 : Nat} {tp : Pos} (a b z TI TO i1 i2 : Addr) (D : ZipApart z TI TO i1 i2 a b) :
    Turn P w K (.Tuple elts x1 tp) (Itz K a b) [z, TI, TO, i1, i2] z (fun i h => IsZip h z TI TO .none ∧ IsPair h TI (.ref i1) (.ref i2) ∧ (∃ u v, IsPair h TO u v) ∧ h.IsListIter i1 a i ∧ h.IsListIter i2 b i) where
  mem := by simp
  obj := fun i h st c hc => by
    obtain ⟨hz, hTI, ⟨u, v, hTO⟩, ⟨o1, e1, _, d1⟩, ⟨o2, e2, _, d2⟩⟩ := st
    simp only [List.mem_cons, List.not_mem_nil, or_false] at hc
    rcases hc with rfl | rfl | rfl | rfl | rfl
    · exact ⟨_, hz, fun v q => by
        have q' : Data.fields _ = Data.cell v := q
        cases q'⟩
    · exact ⟨_, hTI, fun v q => by
        have q' : Data.seq _ _ = Data.cell v := q
        cases q'⟩
    · exact ⟨_, hTO, fun v q => by
        have q' : Data.seq _ _ = Data.cell v := q
        cases q'⟩
    · exact ⟨o1, e1, fun v q => by rw [d1] at q; cases q⟩
    · exact ⟨o2, e2, fun v q => by rw [d2] at q; cases q⟩
  keep := fun i h h' st k => by
    obtain ⟨hz, hTI, ⟨u, v, hTO⟩, h1, h2⟩ := st
    exact ⟨k z (by simp) _ hz, k TI (by simp) _ hTI, ⟨u, v, k TO (by simp) _ hTO⟩, h1.at fun o q => k i1 (by simp) o q, h2.at fun o q => k i2 (by simp) o q⟩
  item := by
    intro X hP hw hK hc i pins s σ H E I hf st hg
    subst hP hw hK
    obtain ⟨hz, hTI, ⟨u, v, hTO⟩, h1, h2⟩ := st
    obtain ⟨xs, ys, x, y, hq1, hq2, hx, hy⟩ := hg
    obtain ⟨its1, rv1, p1, hs1⟩ := I.list hq1
    obtain ⟨its2, rv2, p2, hs2⟩ := I.list hq2
    obtain ⟨ux, hux, rx⟩ := rv1.get hx
    obtain ⟨uy, huy, ry⟩ := rv2.get hy
    have zlt : z < s.heap.objs.size := Heap.lt_size hz
    refine wpAny_pyNext_zip_item D hz hTI hTO h1 h2 p1.isList p2.isList (x := ux) (y := uy) (by simpa using hux) (by simpa using huy) fun h' z1 t1 l1 l2 pn sz kp => ?_
    refine ⟨_, rfl, wpAny_letOwnedTupleGo_zip z1 fun h'' z2 sb => ?_⟩
    have TIk : IsPair h' TI (.ref i1) (.ref i2) := kp TI _ D.TIz D.TITO D.TIi1 D.TIi2 hTI
    have up : ∀ c, c ≠ z → h''.get? c = h'.get? c := fun c hc => sb.2 c hc
    refine ⟨.ref s.heap.objs.size, upd H s.heap.objs.size (.tup [x, y]), turnNew (s := s) (t' := s.toks) (h' := h'') (ch := [z, TI, TO, i1, i2]) I hf (fun c ob hc q => ?_) (Nat.le_refl _) ?_, rfl, ⟨_, I.hok.fresh (Nat.le_refl _), rfl, x, y, rfl, fun zs hz' => by rw [I.list_inj hz' hq1]; exact hx, fun zs hz' => by rw [I.list_inj hz' hq2]; exact hy⟩, ⟨z2, (up TI D.TIz).trans TIk, ⟨_, _, (up TO D.TOz).trans t1⟩, l1.at fun o q => (up i1 D.i1z).trans q, l2.at fun o q => (up i2 D.i2z).trans q⟩, fun c hc => ?_⟩
    · simp only [List.mem_cons, List.not_mem_nil, or_false, not_or] at hc
      exact (up c hc.1).trans (kp c ob hc.1 hc.2.2.1 hc.2.2.2.1 hc.2.2.2.2 q)
    · exact ⟨by show 2 ≤ sizeLine; rw [sizeLine_eq]; decide, [ux, uy], .cons rx (.cons ry .nil), ⟨_, (up _ (Nat.ne_of_gt zlt)).trans pn, rfl, _, rfl⟩⟩
    · have lt : c < s.heap.objs.size := by
        obtain ⟨o1, e1, _⟩ := h1
        obtain ⟨o2, e2, _⟩ := h2
        simp only [List.mem_cons, List.not_mem_nil, or_false] at hc
        rcases hc with rfl | rfl | rfl | rfl | rfl
        · exact zlt
        · exact Heap.lt_size hTI
        · exact Heap.lt_size hTO
        · exact Heap.lt_size e1
        · exact Heap.lt_size e2
      rw [upd_ne (Nat.ne_of_lt lt)]
      exact (hf c hc).1
  done := by
    intro X hP hw hK hc i pins s σ H E I hf st hg
    subst hP hw hK
    obtain ⟨hz, hTI, ⟨u, v, hTO⟩, h1, h2⟩ := st
    obtain ⟨xs, ys, hq1, hq2, hend⟩ := hg
    obtain ⟨its1, rv1, p1, hs1⟩ := I.list hq1
    obtain ⟨its2, rv2, p2, hs2⟩ := I.list hq2
    have e1 := rv1.length
    have e2 := rv2.length
    refine wpAny_pyNext_zip_end (I.ok.hd hc) D hz hTI hTO h1 h2 p1.isList p2.isList (by
      rcases hend with q | q
      · exact .inl (by simp; omega)
      · exact .inr (by simp; omega)) fun h' kp => ⟨rfl, ?_⟩
    refine I.step (g' := s.gens) (d' := s.drawn) (t' := s.toks) (ch := [z, TO, i1, i2]) (fun c hc' => ?_) (fun c o _ _ hc' e _ => ?_) (fun c o _ _ hc' e _ => ⟨o.slots, ?_⟩) (fun _ _ _ _ n => n) (fun c o hc' e => ⟨o, ?_⟩) (fun _ _ e => e) (fun _ _ _ e => e) (fun c ps e => ⟨#[], by rw [e]; simp⟩) (fun m hm => ?_) (fun c o e => ?_) I.bare
    · have hm : c ∈ [z, TI, TO, i1, i2] := by
        simp only [List.mem_cons, List.not_mem_nil, or_false] at hc' ⊢
        rcases hc' with q | q | q | q
        · exact .inl q
        · exact .inr (.inr (.inl q))
        · exact .inr (.inr (.inr (.inl q)))
        · exact .inr (.inr (.inr (.inr q)))
      obtain ⟨f0, f1, f2, f3, f4, f5⟩ := hf c hm
      exact ⟨f3, f1, f4, f5⟩
    · simp only [List.mem_cons, List.not_mem_nil, or_false, not_or] at hc'
      exact kp c o hc'.1 hc'.2.1 hc'.2.2.1 hc'.2.2.2 e
    · simp only [List.mem_cons, List.not_mem_nil, or_false, not_or] at hc'
      exact kp c o hc'.1 hc'.2.1 hc'.2.2.1 hc'.2.2.2 e
    · simp only [List.mem_cons, List.not_mem_nil, or_false, not_or] at hc'
      exact kp c o hc'.1 hc'.2.1 hc'.2.2.1 hc'.2.2.2 e
    · obtain ⟨o, es, ep, ho, r⟩ := hm
      have n1 : X.env.locals ≠ z := fun q => (hf z (by simp)).2.1 q.symm
      have n2 : X.env.locals ≠ TO := fun q => (hf TO (by simp)).2.1 q.symm
      have n3 : X.env.locals ≠ i1 := fun q => (hf i1 (by simp)).2.1 q.symm
      have n4 : X.env.locals ≠ i2 := fun q => (hf i2 (by simp)).2.1 q.symm
      exact ⟨o, es, ep, kp _ o n1 n2 n3 n4 ho, r⟩
    · have nf : ∀ d u, H d = some u → d ≠ z ∧ d ≠ TO ∧ d ≠ i1 ∧ d ≠ i2 := fun d u q => by
        refine ⟨?_, ?_, ?_, ?_⟩ <;> rintro rfl
        · rw [(hf _ (by simp)).1] at q; cases q
        · rw [(hf _ (by simp)).1] at q; cases q
        · rw [(hf _ (by simp)).1] at q; cases q
        · rw [(hf _ (by simp)).1] at q; cases q
      refine (I.hok c o e).stay (fun d v hd q => ?_) (fun _ q => q) fun _ _ q => q
      rcases hd with rfl | hd
      · obtain ⟨a1, a2, a3, a4⟩ := nf _ _ e; exact kp _ v a1 a2 a3 a4 q
      · obtain ⟨a1, a2, a3, a4⟩ := nf _ _ hd; exact kp _ v a1 a2 a3 a4 q
  self := fun _ _ _ _ _ st h => wpAny_pyIter_zip st.1 h
def iZip0 (K : PySem.W.Frag) (ta : TA) : TI := fun σ H R => ta σ H fun vs H1 => ∃ a b, vs = [.ref a, .ref b] ∧ (∃ xs, SqL K H1 a xs) ∧ (∃ ys, SqL K H1 b ys) ∧ R (Itz K a b) H1
theorem pi_zip0 {a b : Expr} {ta : TA} {p pos : Pos} {elts : List Expr} {x1 : Nat} {tp : Pos} (hg : Gl X "zip") (hm : X.mg "zip" = none) (hb : bootBuiltins "zip" = some (.type "zip")) (ha : PA X [a, b] ta) (hs : starEach [a, b] X.env = [(false, eval a X.env), (false, eval b X.env)] := by rfl) (hs2 : starEach [b] X.env = [(false, eval b X.env)] := by rfl) :
    PI X (.Tuple elts x1 tp) (.Call (.Name "zip" p) [a, b] [] pos) (iZip0 X.K ta) := by
  intro pins s σ H R I h
  refine PyProof.Rows.Call_ (ld_blt I hg hm hb (PyProof.Rows.callWith_type1 (thn (ha pos pins s σ H _ I h) fun us s1 ⟨vs, H1, I1, r1, q1⟩ => ?_) (by rw [hs, hs2]) (by rw [hs2]; rfl)))
  obtain ⟨l1, l2, e, ⟨xs, hq1⟩, ⟨ys, hq2⟩, q⟩ := q1
  subst e
  obtain ⟨u, w', rfl, ru, rw'⟩ := vals2 r1
  cases ru
  cases rw'
  obtain ⟨its1, rv1, p1, hz1⟩ := I1.list hq1
  obtain ⟨its2, rv2, p2, hz2⟩ := I1.list hq2
  have lt1 : l1 < s1.heap.objs.size := by obtain ⟨o, e, _⟩ := p1.isList; exact Heap.lt_size e
  have lt2 : l2 < s1.heap.objs.size := by obtain ⟨o, e, _⟩ := p2.isList; exact Heap.lt_size e
  refine call_zip_2 p1.isList p2.isList fun h' hz hTI hTO hi1 hi2 hsz hk => ?_
  refine wpAny_pyIter_zip hz ?_
  have I2 : Inv X pins σ H1 { s1 with heap := h' } := I1.kept (t' := s1.toks) hk
  refine ⟨s1.heap.objs.size + 4, [s1.heap.objs.size + 4, s1.heap.objs.size + 2, s1.heap.objs.size + 3, s1.heap.objs.size, s1.heap.objs.size + 1], _, _, H1, rfl, I2, turn_zip l1 l2 _ _ _ _ _ (PySem.W.ktu_apart _ _ _ lt1 lt2), ⟨hz, hTI, ⟨_, _, hTO⟩, hi1, hi2⟩, fun b hb => ?_, q⟩
  have fr : ∀ c, s1.heap.objs.size ≤ c → FpOk X pins H1 c := fun c hc => I1.fpOk hc (I1.hok.fresh hc)
  simp only [List.mem_cons, List.not_mem_nil, or_false] at hb
  rcases hb with rfl | rfl | rfl | rfl | rfl
  · exact fr _ (Nat.le_add_right _ _)
  · exact fr _ (Nat.le_add_right _ _)
  · exact fr _ (Nat.le_add_right _ _)
  · exact fr _ (Nat.le_refl _)
  · exact fr _ (Nat.le_add_right _ _)
def zipD : List Dm → List Dm → List Dm
  | x :: xs, y :: ys => .tup [x, y] :: zipD xs ys
  | _, _ => []
theorem zipD_get : ∀ {xs ys : List Dm} {i : Nat} {d : Dm}, (zipD xs ys)[i]? = some d → ∃ x y, xs[i]? = some x ∧ ys[i]? = some y ∧ d = .tup [x, y]
  | [], ys, i, d, h => by simp [zipD] at h
  | _ :: _, [], i, d, h => by simp [zipD] at h
  | x :: xs, y :: ys, 0, d, h => by simp [zipD] at h; exact ⟨x, y, rfl, rfl, h.symm⟩
  | x :: xs, y :: ys, i + 1, d, h => by
    obtain ⟨a, b, h1, h2, h3⟩ := zipD_get (xs := xs) (ys := ys) (i := i) (d := d) (by simpa [zipD] using h)
    exact ⟨a, b, by simpa using h1, by simpa using h2, h3⟩
theorem zipD_len : ∀ {xs ys : List Dm} {i : Nat}, (zipD xs ys).length ≤ i → xs.length ≤ i ∨ ys.length ≤ i
  | [], ys, i, h => .inl (by simp)
  | _ :: _, [], i, h => .inr (by simp)
  | x :: xs, y :: ys, 0, h => by simp [zipD] at h
  | x :: xs, y :: ys, i + 1, h => by
    rcases zipD_len (xs := xs) (ys := ys) (i := i) (by simpa [zipD] using h) with q | q
    · exact .inl (by simpa using q)
    · exact .inr (by simpa using q)
theorem jd_zip {K : PySem.W.Frag} {G : Hp} {a b : Addr} {xs ys : List V} {ds es : List Dm} (hq1 : SqL K G a xs) (rr1 : Reps K G ds xs) (hq2 : SqL K G b ys) (rr2 : Reps K G es ys) : JD K (Itz K a b) (zipD ds es) G := by
  intro i H G1 g1 g2
  have h1 := g2.seq (g1.seq hq1)
  have h2 := g2.seq (g1.seq hq2)
  refine ⟨fun d hd => ?_, fun hi => ⟨xs, ys, h1, h2, by rw [← rr1.length, ← rr2.length]; exact zipD_len hi⟩⟩
  obtain ⟨dx, dy, e1, e2, rfl⟩ := zipD_get hd
  obtain ⟨v, hv, rv⟩ := rr1.get e1
  obtain ⟨u, hu, ru⟩ := rr2.get e2
  refine ⟨⟨xs, ys, v, u, h1, h2, hv, hu⟩, fun x H' y => ?_⟩
  obtain ⟨t, ht, rfl, x', y', rfl, hx, hy⟩ := y
  have ex := hx xs h1
  have ey := hy ys h2
  rw [hv] at ex
  rw [hu] at ey
  cases ex
  cases ey
  have g1t : G1 t = none := g2.free ht
  refine ⟨upd G1 t (.tup [v, u]), ⟨Same.upd_new g1t, Same.upd_new ht, fun b hb => upd_ne (by rintro rfl; exact hb ht)⟩, fun b u e => ?_, ?_⟩
  · by_cases z : b = t
    · subst z; rw [upd_same] at e ⊢; exact e
    · rw [upd_ne z] at e ⊢; exact g2 b u e
  · unfold Rep
    exact ⟨t, _, rfl, SqT.of upd_same, Reps.cons (rv.mono (g1.trans (Same.upd_new g1t))) (Reps.cons (ru.mono (g1.trans (Same.upd_new g1t))) Reps.nil)⟩
def iZ (f g : EF) : IF := fun δ => (fz f δ).bind fun r => (shl? r).bind fun ds => (fz g δ).bind fun q => (shl? q).map fun es => zipD ds es
theorem pi_z {a b : Expr} {f g : EF} {p pos : Pos} {elts : List Expr} {x1 : Nat} {tp : Pos} (h : PD X a f) (h' : PD X b g) (hg : Gl X "zip") (hm : X.mg "zip" = none) (hb : bootBuiltins "zip" = some (.type "zip")) (hs : starEach [a, b] X.env = [(false, eval a X.env), (false, eval b X.env)] := by rfl) (hs2 : starEach [b] X.env = [(false, eval b X.env)] := by rfl) (hs1 : starEach [a, b] X.env = (false, eval a X.env) :: starEach [b] X.env := by rfl) :
    PID X (.Tuple elts x1 tp) (.Call (.Name "zip" p) [a, b] [] pos) (iZ f g) := PI.imp (pi_zip0 hg hm hb (pad_cons h (pad_cons h' pad_nil hs2) hs1) hs hs2) fun σ H R q => by
  obtain ⟨B, G0, G, δ, ds, S, e, k⟩ := q
  obtain ⟨r, er, e⟩ := Option.bind_eq_some_iff.mp e
  obtain ⟨xs, exs, e⟩ := Option.bind_eq_some_iff.mp e
  obtain ⟨r', er', e⟩ := Option.bind_eq_some_iff.mp e
  obtain ⟨ys, eys, e⟩ := Option.map_eq_some_iff.mp e
  subst e
  rw [shl_some exs] at er
  rw [shl_some eys] at er'
  unfold fz at er er'
  obtain ⟨r0, er0, er⟩ := Option.map_eq_some_iff.mp er
  obtain ⟨r1, er1, er'⟩ := Option.map_eq_some_iff.mp er'
  refine ⟨B, G0, G, δ, [r0.fz, r1.fz], S, by unfold evs evs evs; rw [er0, er1]; rfl, fun vs G1 H1 S1 g1 q1 => ?_⟩
  obtain ⟨v, t, rfl, _, qa, q1⟩ := q1
  obtain ⟨u, rfl, qb⟩ := RsRs.one q1
  rw [er] at qa
  rw [er'] at qb
  have qa' : Rep X.K G1 (.lst xs) v := qa
  have qb' : Rep X.K G1 (.lst ys) u := qb
  unfold Rep at qa' qb'
  obtain ⟨a, vs, rfl, hq, rr⟩ := qa'
  obtain ⟨b, us, rfl, hq', rr'⟩ := qb'
  exact ⟨a, b, rfl, ⟨vs, S1.gh.seq hq⟩, ⟨us, S1.gh.seq hq'⟩, k _ G1 H1 S1 g1 (jd_zip hq rr hq' rr')⟩
theorem bo_zip : bootBuiltins "zip" = some (.type "zip") := by decide +kernel
theorem bo_all : bootBuiltins "all" = some (.builtin "all") := by decide +kernel
end
end BF
set_option Elab.async false
set_option linter.all false
set_option maxRecDepth 100000
set_option maxHeartbeats 4000000
namespace BF
open PySem PySem.Spec PyProof.Rows L2
noncomputable section
variable {X : Cx}
theorem RsRs.length {K : PySem.W.Frag} {G H : Hp} {δ : List Sl} {σ : L2.St} : ∀ {rs : List Rs} {vs : List V}, RsRs K G H δ σ rs vs → vs.length = rs.length
  | [], vs, h => by rw [show vs = [] from h]; rfl
  | r :: rs, vs, h => by
    obtain ⟨v, t, rfl, _, _, h⟩ := h
    rw [List.length_cons, List.length_cons, RsRs.length h]
end
end BF
set_option Elab.async false
set_option linter.all false
set_option maxRecDepth 100000
set_option maxHeartbeats 4000000
namespace BF
open PySem L2
theorem strI_toList (n : Nat) : (strI (n : Int)).cps.toList = (Nat.toDigits 10 n).map Char.toNat := PySem.W.KIN.signs_num n
theorem strI_digits (n : Nat) : NumText.AllDigits (strI (n : Int)).cps.toList := by
  intro c hc
  rw [strI_toList] at hc
  obtain ⟨ch, hch, e⟩ := List.mem_map.mp hc
  have r := PyProof.Rows.digit_range (Nat.isDigit_of_mem_toDigits (by decide) (by decide) hch)
  rw [← e]
  exact r
theorem strI_len (n : Nat) : (strI (n : Int)).length = (Nat.toDigits 10 n).length := by
  have := congrArg List.length (strI_toList n)
  rw [List.length_map, Array.length_toList] at this
  exact this
theorem strI_short {n : Nat} (h : n < 10 ^ 20) : (strI (n : Int)).length ≤ 20 := by
  rw [strI_len]; exact (Nat.length_toDigits_le_iff (by decide) (by decide)).mpr h
theorem okEq_str {z : Str} (h : ∀ c ∈ z.cps.toList, c < 0x110000) : okEq (.str z) = true := by
  simp only [okEq, toPy, PySem.SeqAt.shaped, PyData.canLay0, PyData.depth, Bool.and_eq_true, decide_eq_true_eq]
  refine ⟨?_, by omega⟩
  unfold PyData.strOk
  rw [← Array.all_toList]
  exact List.all_eq_true.mpr fun c hc => decide_eq_true (h c hc)
theorem eqD_str (a b : Str) : eqD (.str a) (.str b) = (a == b) := by simp [eqD, toPy, PyData.eqv]
theorem oEq_str (neg : Bool) {a b : Str} (ha : okEq (.str a) = true) (hb : okEq (.str b) = true) : oEq neg (.str a) (.str b) = some (.bl (if neg then !(a == b) else a == b)) := by
  unfold oEq
  rw [ha, hb, eqD_str]; rfl
theorem str_ext {a b : Str} (h : a.cps.toList = b.cps.toList) : a = b := by
  cases a; cases b
  congr
  exact Array.toList_inj.mp h
theorem join_cons (s x y : Str) (r : List Str) : (Str.join s (x :: y :: r)).cps.toList = x.cps.toList ++ (s.cps.toList ++ (Str.join s (y :: r)).cps.toList) := by
  show ((x ++ s ++ Str.join s (y :: r) : Str)).cps.toList = _
  show (x.cps ++ s.cps ++ (Str.join s (y :: r)).cps).toList = _
  simp
theorem split_ne (x y : Str) : Txt.split x y ≠ [] := by
  unfold Txt.split
  split
  · simp
  · split
    · simp
    · intro z
      have := congrArg List.length z
      rw [length_partsBetween] at this
      simp at this
theorem sl_tail_l {fa : EF} {δ : List Sl} {x : Dm} {ds : List Dm} (h : dt fa δ = some (.lst (x :: ds))) : fSl fa (pSome (fC (.int 1))) pNo δ = some (.ow ds) := by
  unfold fSl
  rw [h]
  show slD (.lst (x :: ds)) (some ((1 : Nat) : Int)) none = _
  unfold slD
  show some (Rs.ow (cutD _ _ _)) = _
  rw [cut_from]
  rfl
theorem iS_of {f : EF} {δ : List Sl} {r : Rs} {ds : List Dm} (h : f δ = some r) (h2 : walk? r.fz = some ds) : iS f δ = some ds := by unfold iS; rw [fz_some h, Option.bind_some, h2]
theorem isi_of {f : EF} {δ : List Sl} {d : Dm} {c : String} (h : dt f δ = some d) : fIsi f c δ = some (.sh (.bl (isTy d c))) := by unfold fIsi; rw [h]; rfl
theorem vand_t {f g : EF} {δ : List Sl} {r : Rs} (h : bB f δ = some true) (h2 : g δ = some r) : vAnd f g δ = some r := by unfold vAnd; rw [h]; exact h2
theorem fM_of {o : Dm → List Dm → Option Dm} {fa : EF} {fs : List EF} {δ : List Sl} {a d : Dm} {rs : List Rs} (h1 : dt fa δ = some a) (h2 : evs fs δ = some rs) (h3 : o a (rs.map Rs.dat) = some d) : fM o fa fs δ = some (.sh d) := by unfold fM; rw [h1, Option.bind_some, h2, Option.bind_some, h3]; rfl
theorem bls_of (bs : List Bool) : bls? (bs.map Dm.bl) = some bs := by
  induction bs with
  | nil => rfl
  | cons b bs ih => show ((Dm.bl b).bl?.bind fun i => (bls? (bs.map Dm.bl)).map fun r => i :: r) = _; rw [ih]; rfl
theorem strsD_of (zs : List Str) : strsD? (zs.map Dm.str) = some zs := by
  induction zs with
  | nil => rfl
  | cons z zs ih => show ((strsD? (zs.map Dm.str)).map fun r => z :: r) = _; rw [ih]; rfl
theorem split_of {fa fb : EF} {δ : List Sl} {z y : Str} (h1 : dt fa δ = some (.str z)) (h2 : dt fb δ = some (.str y)) (h3 : (y.length == 0) = false) (h4 : z.length + 2 ≤ sizeLine) : fSplit fa fb δ = some (.ow ((Txt.split z y).map .str)) := by
  unfold fSplit
  rw [h1, Option.bind_some, h2, Option.bind_some]
  show (if _ then _ else _) = _
  rw [if_pos ⟨h3, h4⟩]
theorem iZ_of {f g : EF} {δ : List Sl} {r q : Rs} {ds es : List Dm} (h1 : f δ = some r) (e1 : r.fz = .sh (.lst ds)) (h2 : g δ = some q) (e2 : q.fz = .sh (.lst es)) : iZ f g δ = some (zipD ds es) := by
  unfold iZ
  rw [fz_some h1, Option.bind_some, e1, fz_some h2, e2]; rfl
end BF
set_option Elab.async false
set_option linter.all false
set_option maxRecDepth 100000
set_option maxHeartbeats 4000000
namespace BF
open PySem PySem.Spec L2
noncomputable section
variable {X : Cx}
end
end BF
set_option Elab.async false
set_option linter.all false
set_option maxRecDepth 100000
set_option maxHeartbeats 4000000
namespace BF
open PySem PySem.Spec PyProof.Rows L2
noncomputable section
variable {X : Cx}
end
end BF
set_option Elab.async false
set_option linter.all false
set_option maxRecDepth 100000
set_option maxHeartbeats 4000000
namespace BF
open PySem PySem.Spec PyProof.Rows L2
noncomputable section
variable {X : Cx}
def mark1 (C : Hp) : Sl → Sl
  | .sh d => .so C d
  | s => s
def mark (C : Hp) (δ : List Sl) : List Sl := δ.map (mark1 C)
theorem Sim.mark {K : PySem.W.Frag} {B G0 C G H : Hp} {δ : List Sl} {σ : L2.St} (S1 : Sim K B G0 C δ σ H) (S2 : Sim K B G0 G δ σ H) (c : Same C G) : Sim K B G0 G (mark C δ) σ H := by
  have from_ : ∀ (j : Nat) (s : Sl), (BF.mark C δ)[j]? = some s → ∃ t, δ[j]? = some t ∧ s = mark1 C t := fun j s h => by
    unfold BF.mark at h
    rw [List.getElem?_map] at h
    obtain ⟨t, e, h⟩ := Option.map_eq_some_iff.mp h
    exact ⟨t, e, h.symm⟩
  have ow : ∀ (j : Nat) (ds : List Dm), (BF.mark C δ)[j]? = some (.ow ds) → δ[j]? = some (.ow ds) := fun j ds h => by
    obtain ⟨t, e, h⟩ := from_ j _ h
    cases t with
    | ow es => rw [e, show Sl.ow es = Sl.ow ds from h.symm]
    | sh d => cases h
    | un => cases h
    | so C d => cases h
    | pt p k d => cases h
    | xc C => cases h
  refine ⟨by unfold BF.mark; rw [List.length_map]; exact S2.len, S2.bh, S2.g0, S2.gh, S2.gb, fun j s h => ?_, fun i j ds es p hij hi hj => S2.disj i j ds es p hij (ow i ds hi) (ow j es hj)⟩
  obtain ⟨t, e, rfl⟩ := from_ j s h
  cases t with
  | sh d =>
    obtain ⟨v, e1, r⟩ := S1.slot j _ e
    exact ⟨v, e1, r, c⟩
  | un => exact S2.slot j _ e
  | ow ds => exact S2.slot j _ e
  | so C' d => exact S2.slot j _ e
  | pt p k d => exact S2.slot j _ e
  | xc C' => exact S2.slot j _ e
structure Ob (B G0 C G : Hp) (p : Addr) : Prop where
  same : Same C G
  cp : C p = none
  bp : B p = none
  g0 : Same G0 C
  gb : ∀ b, B b ≠ none → C b = G0 b
section
variable {i : Nat} {x : Str} {p0 p1 p2 apos cpos pos : Pos} {j} {rest : List Stmt} {C : Hp} {p : Addr}
end
end
end BF
set_option Elab.async false
set_option linter.all false
set_option maxRecDepth 100000
set_option maxHeartbeats 4000000
namespace BF
open PySem PySem.Spec L2 PyProof.Rows
noncomputable section
def TrAt (h : Heap) (a : Addr) (cls : Value) (T : Addr) (u : Value) : Prop :=
  ∃ oe vs oT ts, h.get? a = some oe ∧ oe.cls = cls ∧ (oe.data = .fields vs ∧ ∃ a0, vs[0]? = some a0) ∧ vs[1]? = some (.ref T) ∧ T ≠ a ∧ h.get? T = some oT ∧ oT.data = .fields ts ∧ ts[3]? = some u
def FlyT (P0 : Addr → Prop) (H : Hp) (h : Heap) (a C : Addr) : Prop := ¬ P0 a ∧ H a = none ∧ ∃ T u, ¬ P0 T ∧ H T = none ∧ TrAt h a (.ref C) T u
def Fly (P0 : Addr → Prop) (H : Hp) (h : Heap) (a C : Addr) : Prop :=
  (¬ P0 a ∧ H a = none ∧ ∃ oe vs, h.get? a = some oe ∧ oe.cls = .ref C ∧ (oe.data = .fields vs ∧ ∃ a0, vs[0]? = some a0) ∧ vs[1]? = some .none) ∨ FlyT P0 H h a C
theorem FlyT.at_ {P0 : Addr → Prop} {h : Heap} {H : Hp} {a C : Addr} (f : FlyT P0 H h a C) : ∃ oe, h.get? a = some oe ∧ oe.cls = .ref C := by
  obtain ⟨_, _, T, u, _, _, oe, vs, oT, ts, e, c, _⟩ := f
  exact ⟨oe, e, c⟩
theorem Fly.free {P0 : Addr → Prop} {h : Heap} {H : Hp} {a C : Addr} (f : Fly P0 H h a C) : ¬ P0 a ∧ H a = none := by
  rcases f with ⟨f1, f2, _⟩ | ⟨f1, f2, _⟩
  · exact ⟨f1, f2⟩
  · exact ⟨f1, f2⟩
theorem FlyT.back {P0 P1 : Addr → Prop} {h : Heap} {H : Hp} {a C : Addr} (f : FlyT P1 H h a C) (k : ∀ b, P0 b → P1 b) : FlyT P0 H h a C := by
  obtain ⟨f1, f2, T, u, t1, t2, t3⟩ := f
  exact ⟨fun z => f1 (k _ z), f2, T, u, fun z => t1 (k _ z), t2, t3⟩
def Nt (P0 : Addr → Prop) (H : Hp) (fr : List Addr) (h h' : Heap) : Prop :=
  (∀ b o, h.get? b = some o → b ∉ fr → (P0 b ∨ H b ≠ none) → h'.get? b = some o) ∧ h.UpToSlots h'
theorem Nt.trans {P0 : Addr → Prop} {h1 h2 h3 : Heap} {H : Hp} {fr : List Addr} (a : Nt P0 H fr h1 h2) (b : Nt P0 H fr h2 h3) : Nt P0 H fr h1 h3 :=
  ⟨fun c o e nf hn => b.1 c o (a.1 c o e nf hn) nf hn, a.2.trans b.2⟩
theorem Nt.mono {P0 : Addr → Prop} {h1 h2 : Heap} {H : Hp} {fr fr' : List Addr} (a : Nt P0 H fr h1 h2) (s : ∀ b ∈ fr, b ∈ fr') : Nt P0 H fr' h1 h2 :=
  ⟨fun c o e nf hn => a.1 c o e (fun z => nf (s c z)) hn, a.2⟩
theorem Nt.refl {P0 : Addr → Prop} {h : Heap} {H : Hp} {fr : List Addr} : Nt P0 H fr h h := ⟨fun _ _ e _ _ => e, .refl h⟩
theorem funs_hide {h base' : Heap} {base : Heap} {l : List Env} (f : h.FunFrames base l) (n : ∀ b ∈ frs l, base'.get? b = none) : h.FunFrames base' l := by
  induction l with
  | nil => trivial
  | cons env r ih =>
    obtain ⟨hk, ⟨L, o, hf, _, ho, hd⟩, hr⟩ := f
    have m : ∀ b ∈ frs r, b ∈ frs (env :: r) := fun b hb => by unfold frs; rw [List.filterMap_cons, hf]; exact List.mem_cons_of_mem _ hb
    exact ⟨hk, ⟨L, o, hf, n L (by unfold frs; rw [List.filterMap_cons, hf]; exact List.mem_cons_self), ho, hd⟩, ih hr fun b hb => n b (m b hb)⟩
section
variable {M : Model} {A : Around} {E : Value → Shared → Prop} {s : Shared} {base : Heap} {env : Env} {outer : List Env} {L a C : Addr} {P0 : Addr → Prop} {H : Hp} {Q : Unit → Shared → Prop}
theorem flight_strong {fr : Option Addr} (f : FlyT P0 H s.heap a C) (h : ∀ h', Nt P0 H [] s.heap h' → FlyT P0 H h' a C → Q () { s with heap := h' }) : wpAny M A (setFlight (.ref a) fr) Q E s := by
  obtain ⟨f1, f2, T, u, t1, t2, oe, vs, oT, ts, e1, e2, e3, e4, e5, e6, e7, e8⟩ := f
  have hsz3 : 3 < ts.size := (Array.getElem?_eq_some_iff.mp e8).1
  unfold setFlight
  refine wpAny_bind (wpAny_field e1 e3.1 e4 ?_)
  rw [if_pos (show (Value.ref T != Value.none) = true from by simp)]
  have other : ∀ b, b ≠ T → (s.heap.update T (Obj.mapFields (·.setIfInBounds 3 (fr.elim Value.none fun f => rawInt f)))).get? b = s.heap.get? b := fun b hb => Heap.get?_update_other _ _ (Ne.symm hb)
  refine wpAny_setField e6 e7 hsz3 (h _ ⟨fun b o e _ hn => (other b fun z => ?_).trans e, fun b o e hn => ⟨o.slots, (other b fun z => ?_).trans e⟩⟩ ⟨f1, f2, T, fr.elim Value.none fun f => rawInt f, t1, t2, oe, vs, _, _, (other a (Ne.symm e5)).trans e1, e2, e3, e4, e5,
    Heap.get?_update_self _ e6 (Obj.isFreed_of_fields (Obj.data_mapFields e7 _)), Obj.data_mapFields e7 _, by simp [hsz3]⟩)
  · subst z
    rcases hn with hn | hn
    · exact t1 hn
    · exact hn t2
  · subst z
    rw [e6] at e
    cases e
    exact hn _ e7
theorem note_strong (hfr : A.frames = some (env :: outer)) (hl : s.heap.FunFrames base (env :: outer)) (hf : env.frame = some L) (f : Fly P0 H s.heap a C) (hH : ∀ b o, H b = some o → ∃ u, s.heap.get? b = some u) (hsz : ∀ b, P0 b → ∃ o', s.heap.get? b = some o')
    (h : ∀ h', Nt P0 H (frs (env :: outer)) s.heap h' → FlyT P0 H h' a C → Q () { s with heap := h' }) : wpAny M A (noteFrame (.ref a) env) Q E s := by
  obtain ⟨f1, f2⟩ := f.free
  have main : ∀ (hid : List Addr) (h1 : Heap) (oe : Obj), a ∈ hid → (∀ b ∈ hid, b ∉ frs (env :: outer) → ¬ P0 b ∧ H b = none) → (∀ b ∈ frs (env :: outer), b ∈ hid) → (∀ b, b ∉ hid → h1.get? b = s.heap.get? b) → s.heap.UpToSlots h1 → (∀ b ∈ frs (env :: outer), h1.get? b = s.heap.get? b) → oe.cls = .ref C →
      ∀ a0 h', Heap.NotedW (PySem.W.hideAll s.heap hid) (env :: outer) a oe.cls a0 (rawInt L) h1 h' → Q () { s with heap := h' } := fun hid h1 oe ha hh hfrs hh1 hus hfr1 hcls a0 h' ⟨k1, k2, k3, k4⟩ => by
    refine h h' ⟨fun b o e nf hn => ?_, fun b o e hd => ?_⟩ ?_
    · refine k1 b o (PySem.W.hideAll_get _ e fun hm => ?_)
      obtain ⟨z1, z2⟩ := hh b hm nf
      rcases hn with hn | hn
      · exact z1 hn
      · exact hn z2
    · obtain ⟨sl, z⟩ := hus b o e hd
      obtain ⟨sl', z'⟩ := k4 b _ z hd
      exact ⟨sl', z'⟩
    · obtain ⟨oe', vs, T, oT, ts, q1, q2, q3, q4, q5, q6, q7, q8, q9⟩ := k3
      have nfr : T ∉ frs (env :: outer) := fun hb => by
        obtain ⟨_, o', ho', hd'⟩ := hl.mem hb
        obtain ⟨sl, z⟩ := k4 T o' ((hfr1 T hb).trans ho') hd'
        rw [q7] at z
        injection z with z
        rw [z] at q8
        exact hd' _ q8
      refine ⟨f1, f2, T, rawInt L, ?_, ?_, oe', vs, oT, ts, q1, q2.1.trans hcls, ⟨q3, a0, q2.2⟩, q4, q6, q7, q8, q9⟩
      · intro z
        obtain ⟨o', z'⟩ := hsz T z
        by_cases hm : T ∈ hid
        · exact (hh T hm nfr).1 z
        · rw [PySem.W.hideAll_get _ z' hm] at q5; cases q5
      · cases z : H T with
        | none => rfl
        | some o =>
          obtain ⟨o', z'⟩ := hH T o z
          by_cases hm : T ∈ hid
          · rw [(hh T hm nfr).2] at z; cases z
          · rw [PySem.W.hideAll_get _ z' hm] at q5; cases q5
  rcases f with ⟨_, _, oe, vs, e1, e2, e3, e4⟩ | ⟨_, _, T, u, t1, t2, oe, vs, oT, ts, e1, e2, e3, e4, e5, e6, e7, e8⟩
  · obtain ⟨e3, a0, e0⟩ := e3
    unfold noteFrame
    simp only [hf]
    refine wpAny_bind (wpAny_field e1 e3 e4 ?_)
    rw [if_neg (by decide)]
    refine wpAny_entryW (base := PySem.W.hideAll s.heap (a :: frs (env :: outer))) hfr (funs_hide hl fun b hb => PySem.W.hideAll_none _ (List.mem_cons_of_mem _ hb)) hf e1 (fun b o e => PySem.W.of_hideAll _ e) (PySem.W.hideAll_none _ List.mem_cons_self) e3 (Array.getElem?_eq_some_iff.mp e4).1 e0 ?_
    exact main (a :: frs (env :: outer)) s.heap oe List.mem_cons_self (fun b hb nf => by
      rcases List.mem_cons.mp hb with rfl | hb
      · exact ⟨f1, f2⟩
      · exact absurd hb nf) (fun b hb => List.mem_cons_of_mem _ hb) (fun _ _ => rfl) (.refl _) (fun _ _ => rfl) e2 a0
  · obtain ⟨e3, a0, e0⟩ := e3
    have hsz3 : 3 < ts.size := (Array.getElem?_eq_some_iff.mp e8).1
    unfold noteFrame
    simp only [hf]
    refine wpAny_bind (wpAny_field e1 e3 e4 ?_)
    rw [if_pos (show (Value.ref T != Value.none) = true from by simp)]
    refine wpAny_bind (wpAny_field e6 e7 e8 ?_)
    by_cases hu : (u == rawInt L) = true
    · rw [if_pos hu]
      exact wpAny_pure (h s.heap .refl ⟨f1, f2, T, u, t1, t2, oe, vs, oT, ts, e1, e2, ⟨e3, a0, e0⟩, e4, e5, e6, e7, e8⟩)
    · rw [if_neg hu]
      have other : ∀ b, b ≠ T → (s.heap.update T (Obj.mapFields (·.setIfInBounds 3 Value.none))).get? b = s.heap.get? b := fun b hb => Heap.get?_update_other _ _ (Ne.symm hb)
      have noRecord : ∀ b o, s.heap.get? b = some o → (∀ vs, o.data ≠ .fields vs) → b ≠ T := fun b o hb hnf q => by
        rw [q, e6] at hb; injection hb with hb; subst hb; exact hnf ts e7
      have hT : T ∉ frs (env :: outer) := fun hb => by
        obtain ⟨_, o', ho', hd'⟩ := hl.mem hb
        exact noRecord T o' ho' hd' rfl
      refine wpAny_bind (wpAny_setField e6 e7 hsz3 ?_)
      refine wpAny_entryW (base := PySem.W.hideAll s.heap (a :: T :: frs (env :: outer))) hfr ?_ hf ((other a (Ne.symm e5)).trans e1) (fun b o e => ?_) (PySem.W.hideAll_none _ List.mem_cons_self) e3 (Array.getElem?_eq_some_iff.mp e4).1 e0 ?_
      · exact Heap.FunFrames.of_keeps (fun b o hb hnf => ⟨o, (other b (noRecord b o hb hnf)).trans hb, rfl⟩) (funs_hide hl fun b hb => PySem.W.hideAll_none _ (List.mem_cons_of_mem _ (List.mem_cons_of_mem _ hb)))
      · refine (other b fun z => ?_).trans (PySem.W.of_hideAll _ e)
        rw [z, PySem.W.hideAll_none _ (List.mem_cons_of_mem _ List.mem_cons_self)] at e; cases e
      · exact main (a :: T :: frs (env :: outer)) _ oe List.mem_cons_self (fun b hb nf => by
          rcases List.mem_cons.mp hb with rfl | hb
          · exact ⟨f1, f2⟩
          · rcases List.mem_cons.mp hb with rfl | hb
            · exact ⟨t1, t2⟩
            · exact absurd hb nf) (fun b hb => List.mem_cons_of_mem _ (List.mem_cons_of_mem _ hb)) (fun b hb => other b fun z => hb (by rw [z]; exact List.mem_cons_of_mem _ List.mem_cons_self)) (fun b o e hd => ⟨o.slots, (other b (noRecord b o e hd)).trans e⟩)
          (fun b hb => other b fun z => hT (by rw [← z]; exact hb)) e2 a0
theorem leave_strong (hfr : A.frames = some (env :: outer)) (hl : s.heap.FunFrames base (env :: outer)) (hf : env.frame = some L) (f : Fly P0 H s.heap a C) (hH : ∀ b o, H b = some o → ∃ u, s.heap.get? b = some u) (hsz : ∀ b, P0 b → ∃ o', s.heap.get? b = some o')
    (h : ∀ h', Nt P0 H (frs (env :: outer)) s.heap h' → FlyT P0 H h' a C → Q () { s with heap := h' }) : wpAny M A (leaving env (.ref a)) Q E s := by
  unfold leaving
  refine wpAny_bind (note_strong hfr hl hf f hH hsz fun h1 n1 f1 => ?_)
  exact flight_strong (s := { s with heap := h1 }) f1 fun h2 n2 f2 => h h2 (n1.trans (n2.mono fun _ z => absurd z (by simp))) f2
end
theorem objOk_there {P : Program} {w : World} {H : Hp} {h : Heap} {a : Addr} {o : HO} (x : ObjOk P w H h a o) : ∃ u, h.get? a = some u := by
  cases o with
  | lst xs => obtain ⟨_, _, _, _, e⟩ := x; exact ⟨_, e⟩
  | tup xs => obtain ⟨_, _, _, _, e, _⟩ := x; exact ⟨_, e⟩
  | dK kvs => obtain ⟨_, _, _, _, o, _, _, e, _⟩ := x; exact ⟨_, e⟩
  | dT kvs => obtain ⟨_, _, _, _, o, _, _, e, _⟩ := x; exact ⟨_, e⟩
  | set S n => obtain ⟨o, _, _, _, e, _⟩ := x; exact ⟨_, e⟩
  | ins C dx fs => obtain ⟨_, _, _, e, _⟩ := x; exact ⟨_, e⟩
  | own y => exact x
  | xd fs => obtain ⟨_, ⟨_, _, _, e, _⟩, _⟩ := x; exact ⟨_, e⟩
  | rng lo hi => obtain ⟨_, _, _, e⟩ := x; exact ⟨_, e⟩
  | frz ob u => obtain ⟨e, _⟩ := x; exact ⟨_, e⟩
  | tbl ps => exact ⟨_, (show h.get? a = some _ from x)⟩
  | met f y => exact ⟨_, (show h.get? a = some _ from x)⟩
  | ext φ => obtain ⟨_, e, _⟩ := x; exact e
theorem hok_nt {P : Program} {w : World} {H : Hp} {P0 : Addr → Prop} {h h' : Heap} {fr : List Addr} (ok : HOk P w H h) (n : Nt P0 H fr h h') (hf : ∀ b ∈ fr, H b = none) : HOk P w H h' := fun b o e => by
  refine (ok b o e).stay (fun c u hc q => n.1 c u q (fun hm => ?_) (.inr ?_)) (fun _ q => q) fun _ _ q => q
  · have hn := hf c hm
    rcases hc with z | z
    · rw [z, e] at hn; cases hn
    · rw [hn] at z; cases z
  · rcases hc with z | z
    · rw [z, e]; simp
    · rw [z]; simp
theorem un_nt {X : Cx} {pins : List (Addr × Obj)} {σ : L2.St} {H : Hp} {s : Shared} {h' : Heap} {P0 : Addr → Prop} (hc : ∀ b o, X.s₀.heap.get? b = some o → b ∉ X.ex → P0 b) (I : Inv X pins σ H s) (n : Nt P0 H (frs X.stack) s.heap h') : Un X.fs X.ex X.H₀ H X.s₀.heap h' := by
  have nL : ∀ b o, X.s₀.heap.get? b = some o → b ∉ X.fs → b ∉ frs X.stack := fun b o e hb hm => by
    rcases List.mem_cons.mp (I.stkSub b hm) with z | z
    · exact absurd (Nat.lt_of_lt_of_le (Heap.lt_size e) I.ok.above) (by rw [z]; exact Nat.lt_irrefl _)
    · exact hb z
  have dat : ∀ b o, s.heap.get? b = some o → b ∈ frs X.stack → ∀ vs, o.data ≠ .fields vs := fun b o e hb => by
    obtain ⟨_, o', ho', hd'⟩ := I.stack.mem hb
    rw [e] at ho'; cases ho'; exact hd'
  refine ⟨fun b o e hn hb hx => n.1 b o (I.base.keep b o e hn hb hx) (nL b o e hb) (.inl (hc b o e hx)), fun b o e hn hb hx => ?_, I.base.free, fun b o e hx => ?_, I.base.tups, I.base.frzs, I.base.tbls⟩
  · obtain ⟨sl, z⟩ := I.base.slot b o e hn hb hx
    obtain ⟨_, o', ho', hd'⟩ := I.ok.funs.mem hb
    rw [e] at ho'; cases ho'
    obtain ⟨sl', z'⟩ := n.2 b _ z hd'
    exact ⟨sl', z'⟩
  · obtain ⟨o', z⟩ := I.base.there b o e hx
    by_cases hm : b ∈ frs X.stack
    · obtain ⟨sl, z'⟩ := n.2 b o' z (dat b o' z hm)
      exact ⟨_, z'⟩
    · exact ⟨o', n.1 b o' z hm (.inl (hc b o e hx))⟩
theorem inv_nt {X : Cx} {σ : L2.St} {H : Hp} {s : Shared} {h' : Heap} {P0 : Addr → Prop} (hc : ∀ b o, X.s₀.heap.get? b = some o → b ∉ X.ex → P0 b) {pins : List (Addr × Obj)} (hpn : ∀ p ∈ X.pn ++ pins, P0 p.1) (I : Inv X pins σ H s) (n : Nt P0 H (frs X.stack) s.heap h') : Inv X pins σ H { s with heap := h' } := by
  have cel : ∀ c v, s.heap.IsCell c v → h'.IsCell c v := fun c v ⟨o, e, d⟩ => by
    obtain ⟨sl, z⟩ := n.2 c o e (fun vs q => by rw [d] at q; cases q)
    exact ⟨_, z, d⟩
  obtain ⟨m, hn, hl⟩ := I.loc
  refine ⟨I.ok, I.os, I.bare, un_nt hc I n, ⟨m, n.2.ns hn, fun i x v e1 e2 e3 => ?_⟩, fun x c e => ?_, I.free, I.freeC, fun p hp => ?_, hok_nt I.hok n I.stkFree, I.len⟩
  · obtain ⟨u, r, l⟩ := hl i x v e1 e2 e3
    refine ⟨u, r, ?_⟩
    rcases l with l | ⟨l1, c, l2, l3⟩
    · exact .inl l
    · exact .inr ⟨l1, c, l2, cel _ _ l3⟩
  · obtain ⟨v, z⟩ := I.cell x c e
    exact ⟨v, cel _ _ z⟩
  · obtain ⟨e1, e2, e3, e4, e5⟩ := I.pin p hp
    refine ⟨n.1 _ _ e1 (fun hm => ?_) (.inl (hpn p hp)), e2, e3, e4, e5⟩
    rcases List.mem_cons.mp (I.stkSub _ hm) with z | z
    · exact e3 z
    · exact e4 z
abbrev In_ (h : Heap) : Addr → Prop := fun b => h.get? b ≠ none
def CX1 (P : Program) (w : World) (mg : Str → Option Value) : CXT := fun outer H s E e s' => ∃ a C H', e = .ref a ∧ s'.os = s.os ∧ AllBare s'.gens ∧ Un (frs outer) [] H H' s.heap s'.heap ∧ HOk P w H' s'.heap ∧ FlyT (In_ s.heap) H' s'.heap a C ∧ E e (some C) H'
def Blw (X : Cx) (P0 : Addr → Prop) : Prop := ∀ pins σ H s, Inv X pins σ H s → ∀ b, P0 b → ∃ o', s.heap.get? b = some o'
def XR (X : Cx) (P0 : Addr → Prop) (EX : L2.St → Addr → Hp → Prop) : Prop := ∀ pins σ H s a C, Inv X pins σ H s → Fly P0 H s.heap a C → EX σ C H → X.xe (.ref a) s
abbrev EO (EX : Addr → Hp → Prop) : XK := fun _ o H' => ∃ C, o = some C ∧ EX C H'
theorem in_of {h : Heap} {b : Addr} {o : Obj} (e : h.get? b = some o) : In_ h b := fun z => by rw [e] at z; cases z
theorem of_in {h : Heap} {b : Addr} (e : In_ h b) : ∃ o, h.get? b = some o := by
  cases q : h.get? b with
  | none => exact absurd q e
  | some o => exact ⟨o, rfl⟩
theorem pass1 {X : Cx} {P0 : Addr → Prop} {EX : L2.St → Addr → Hp → Prop} (x : XR X P0 EX) (bl : Blw X P0) {pins : List (Addr × Obj)} {σ : L2.St} {H : Hp} {s : Shared} (I : Inv X pins σ H s) {e : Value} {s' : Shared} (h : CX1 X.prog X.w X.mg X.stack H s (EO (EX σ)) e s') : X.xe e s' := by
  obtain ⟨a, C, H', rfl, os, bare, un, hok, fly, C', eC, ex⟩ := h
  cases eC
  have I' : Inv X pins σ H' s' := I.call' (ch := []) os un hok bare (fun b z => absurd z (by simp))
  refine x pins σ H' s' a C I' (.inr (fly.back fun b hb => ?_)) ex
  obtain ⟨o, e⟩ := bl pins σ H s I b hb
  exact in_of e
section
variable {P : Program} {w : World} {K : PySem.W.Frag} {mg : Str → Option Value} {base : Heap} {N : List Str} {qual : Str} {scope : Scope} {f : Addr} {cd : Value} {A : Around} {outer : List Env} {s : Shared} {H : Hp} {E : XK}
theorem blw_cxOf {CX : CXT} : Blw (cxOf CX P w K mg base N qual scope f cd A outer s H E) (In_ s.heap) := fun pins σ H1 s1 I b e => by
  obtain ⟨o, e⟩ := of_in e
  exact I.base.there b o e (fun z => absurd z (by simp [cxOf]))
theorem xr_cxOf : XR (cxOf (CX1 P w mg) P w K mg base N qual scope f cd A outer s H E) (In_ s.heap) fun _ C H' => ∀ e, E e (some C) H' := by
  intro pins σ H1 s1 a C I fly ex
  refine leave_strong (base := base) (P0 := In_ s.heap) (H := H1) I.ok.frames I.stack rfl fly (fun b o e => objOk_there (I.hok b o e)) (blw_cxOf pins σ H1 s1 I) fun h' n fl => ?_
  exact ⟨a, C, H1, rfl, I.os, I.bare, un_nt (fun b o e _ => in_of (show s.heap.get? b = some o from e)) I n, hok_nt I.hok n I.stkFree, fl, ex _⟩
end
end
end BF
set_option Elab.async false
set_option linter.all false
set_option maxRecDepth 100000
set_option maxHeartbeats 4000000
namespace BF
open PySem PySem.Spec L2 PyProof.Rows
noncomputable section
variable {X : Cx}
def Dm.str? : Dm → Option Str
  | .str z => some z
  | _ => none
theorem str_some {d : Dm} {z : Str} (e : d.str? = some z) : d = .str z := by
  cases d <;> first | (cases e; done) | (have e' := Option.some.inj e; rw [e'])
def fRpr (f : EF) : EF := fun δ => (dt f δ).bind fun d => d.str?.bind fun z => if (reprText z).length ≤ sizeLine then some (.sh (.str (reprText z))) else none
def fFmt (f : EF) : EF := fun δ => (dt f δ).bind fun d => match d with
  | .str z => if z.length ≤ sizeLine then some (.sh (.str z)) else none
  | .int a => if a.natAbs.log2 < 1920 then some (.sh (.str (toString a))) else none
  | _ => none
theorem pd_fvr {e : Expr} {f : EF} {pos : Pos} (h : PD X e f) : PD X (.FormattedValue e 114 none pos) (fRpr f) := by
  intro pins s σ H Q I q
  obtain ⟨B, G0, G, δ, r0, S, e, k⟩ := q
  obtain ⟨d, ed, e⟩ := Option.bind_eq_some_iff.mp e
  obtain ⟨z, ez, e⟩ := Option.bind_eq_some_iff.mp e
  by_cases hz : (reprText z).length ≤ sizeLine
  case neg => rw [if_neg hz] at e; cases e
  rw [if_pos hz] at e
  cases e
  obtain ⟨ra, era, rfl⟩ := dt_some ed
  have hd := str_some ez
  refine wpAny_FormattedValue_repr (thn (h pins s σ H (fun v H1 => v = .str z ∧ Q (.str (reprText z)) H1) I ⟨B, G0, G, δ, ra, S, era, fun v G1 H1 S1 g1 q1 => ?_⟩) fun v s1 ⟨x, H1, I1, r1, ex, q1⟩ => ?_)
  · have r1 := RsR.rep S1 q1
    rw [hd] at r1
    unfold Rep at r1
    exact ⟨r1, k _ G1 H1 S1 g1 (by show Rep X.K G1 (.str (reprText z)) _; exact rep_scal (d := .str (reprText z)) rfl)⟩
  · subst ex
    obtain ⟨t, rfl⟩ : ∃ t, v = .str z t := r1
    refine wpAny_pyReprObj_str ?_ hz
    exact wpAny_formatField_str ⟨.str (reprText z), H1, I1.tok _, ⟨_, rfl⟩, q1⟩ ⟨.str (reprText z), H1, (I1.tok _), ⟨_, rfl⟩, q1⟩ hz
theorem pd_fvp {e : Expr} {f : EF} {pos : Pos} (h : PD X e f) : PD X (.FormattedValue e (-1) none pos) (fFmt f) := by
  intro pins s σ H Q I q
  obtain ⟨B, G0, G, δ, r0, S, e, k⟩ := q
  obtain ⟨d, ed, e⟩ := Option.bind_eq_some_iff.mp e
  obtain ⟨ra, era, rfl⟩ := dt_some ed
  refine wpAny_FormattedValue_plain (thn (h pins s σ H (fun v H1 => Rep X.K H1 ra.dat v ∧ ∀ u, RsR X.K H H1 H1 δ σ r0 u → Q u H1) I ⟨B, G0, G, δ, ra, S, era, fun v G1 H1 S1 g1 q1 => ?_⟩) fun v s1 ⟨x, H1, I1, r1, rx, q1⟩ => ?_)
  · have r1 := RsR.rep S1 q1
    refine ⟨r1, fun u hu => k u G1 H1 S1 g1 ?_⟩
    split at e
    · split at e
      · cases e; exact hu
      · cases e
    · split at e
      · cases e; exact hu
      · cases e
    · cases e
  · split at e
    · rename_i z hd
      split at e
      · rename_i hz
        cases e
        rw [hd] at rx
        unfold Rep at rx
        subst rx
        obtain ⟨t, rfl⟩ : ∃ t, v = .str z t := r1
        have qq := q1 (.str z) (show Rep X.K H1 (.str z) (.str z) from rep_scal (d := .str z) rfl)
        exact wpAny_formatField_str ⟨.str z, H1, I1, ⟨_, rfl⟩, qq⟩ ⟨.str z, H1, (I1.tok _), ⟨_, rfl⟩, qq⟩ hz
      · cases e
    · rename_i a hd
      split at e
      · rename_i hz
        cases e
        rw [hd] at rx
        unfold Rep at rx
        subst rx
        obtain ⟨t, rfl⟩ : ∃ t, v = .int a t := r1
        have qq := q1 (.str (toString a)) (show Rep X.K H1 (.str (toString a)) (.str (toString a)) from rep_scal (d := .str (toString a)) rfl)
        exact wpAny_formatField_int hz ⟨.str (toString a), H1, (I1.tok _), ⟨_, rfl⟩, qq⟩
      · cases e
    · cases e
inductive PJ (X : Cx) : List Expr → List EF → Prop
  | nil : PJ X [] []
  | cons {e : Expr} {es : List Expr} {f : EF} {fs : List EF} : PD X e f → PJ X es fs → PJ X (e :: es) (f :: fs)
def jn : List EF → List Sl → Str → Option Str
  | [], _, acc => some acc
  | f :: fs, δ, acc => (dt f δ).bind fun d => d.str?.bind fun y => if (acc ++ y).length ≤ sizeLine then jn fs δ (acc ++ y) else none
def fJs (fs : List EF) : EF := fun δ => (jn fs δ Str.empty).bind fun z => if z.length ≤ sizeLine then some (.sh (.str z)) else none
theorem joins_run {es : List Expr} {fs : List EF} (h : PJ X es fs) {B G0 : Hp} {δ : List Sl} {out : Str} {pins : List (Addr × Obj)} {σ : L2.St} {Q : VK} (hz : out.length ≤ sizeLine) : ∀ {acc : Str} {s : Shared} {H G : Hp}, Inv X pins σ H s → jn fs δ acc = some out → KD X.K B G0 G δ σ H (.sh (.str out)) Q →
    Joins (model X.prog X.w) X.A X.xe (evalEach es X.env) acc (fun o s1 => o.length ≤ sizeLine ∧ EP X pins σ Q (.str o s1.toks) { s1 with toks := s1.toks + 1 }) s := by
  induction h with
  | nil =>
    intro acc s H G I e k
    cases e
    exact ⟨hz, .str out, H, I.tok _, ⟨_, rfl⟩, k.now (show Rep X.K G (.str out) (.str out) from rep_scal (d := .str out) rfl)⟩
  | @cons ex0 es f fs hp _ ih =>
    intro acc s H G I e1 k
    obtain ⟨d, ed, e2⟩ := Option.bind_eq_some_iff.mp (show ((dt f δ).bind fun d => d.str?.bind fun y => if (acc ++ y).length ≤ sizeLine then jn fs δ (acc ++ y) else none) = some out from e1)
    obtain ⟨y, ey, e3⟩ := Option.bind_eq_some_iff.mp e2
    by_cases hy : (acc ++ y).length ≤ sizeLine
    case neg => rw [if_neg hy] at e3; cases e3
    rw [if_pos hy] at e3
    obtain ⟨ra, era, rfl⟩ := dt_some ed
    have hd := str_some ey
    show wpAny _ _ (eval _ X.env) _ _ s
    refine thn (hp pins s σ H (fun v H1 => v = .str y ∧ ∃ G1, KD X.K B G0 G1 δ σ H1 (.sh (.str out)) Q) I ⟨B, G0, G, δ, ra, k.sim, era, fun v G1 H1 S1 g1 q1 => ?_⟩) fun v s1 ⟨x, H1, I1, r1, ex, G1, k1⟩ => ?_
    · have r1 := RsR.rep S1 q1
      rw [hd] at r1
      unfold Rep at r1
      exact ⟨r1, G1, k.step S1 g1⟩
    · subst ex
      obtain ⟨t, rfl⟩ : ∃ t, v = .str y t := r1
      exact ⟨y, t, rfl, hy, ih I1 e3 k1⟩
theorem pd_js {v₁ v₂ : Expr} {rest : List Expr} {pos : Pos} {fs : List EF} (h : PJ X (v₁ :: v₂ :: rest) fs) : PD X (.JoinedStr (v₁ :: v₂ :: rest) pos) (fJs fs) := by
  intro pins s σ H Q I q
  obtain ⟨B, G0, G, δ, r0, S, e, k⟩ := q
  obtain ⟨z, ez, e⟩ := Option.bind_eq_some_iff.mp e
  by_cases hz : z.length ≤ sizeLine
  case neg => rw [if_neg hz] at e; cases e
  rw [if_pos hz] at e
  cases e
  exact wpAny_JoinedStr (joins_run h hz I ez ⟨S, k⟩)
end
end BF
set_option Elab.async false
set_option linter.all false
set_option maxRecDepth 100000
set_option maxHeartbeats 4000000
namespace BF
open PySem PySem.Spec L2 PyProof.Rows
noncomputable section
variable {X : Cx} {EX : L2.St → Addr → Hp → Prop}
abbrev EFX := List Sl → Option (Rs ⊕ Str)
abbrev SFX := List Sl → Option (Fl ⊕ Str)
abbrev FDX := List Dm → Option (Rs ⊕ Str)
def Wx (mg : Str → Option Value) (EX : L2.St → Addr → Hp → Prop) (σ : L2.St) (B : Hp) (c : Str) : Prop := ∀ C H', mg c = some (.ref C) → Same B H' → EX σ C H'
def EOk (X : Cx) (EX : L2.St → Addr → Hp → Prop) (B G0 G : Hp) (δ : List Sl) (σ : L2.St) (H : Hp) (Q : VK) : Rs ⊕ Str → Prop
  | .inl r => ∀ v G' H', Sim X.K B G0 G' δ σ H' → Gr G H G' H' → RsR X.K H G' H' δ σ r v → Q v H'
  | .inr c => Wx X.mg EX σ H c
theorem Wx.mono {mg : Str → Option Value} {σ : L2.St} {B B' : Hp} {c : Str} (w : Wx mg EX σ B c) (s : Same B B') : Wx mg EX σ B' c := fun C H' hm hs => w C H' hm (s.trans hs)
def tDX (X : Cx) (EX : L2.St → Addr → Hp → Prop) (f : EFX) : TE := fun σ H Q => ∃ B G0 G δ o, Sim X.K B G0 G δ σ H ∧ f δ = some o ∧ EOk X EX B G0 G δ σ H Q o
def PDX (X : Cx) (EX : L2.St → Addr → Hp → Prop) (e : Expr) (f : EFX) : Prop := PE X e (tDX X EX f)
def fo (f : EFX) : EF := fun δ => match f δ with
  | some (.inl r) => some r
  | _ => none
theorem fo_of {f : EFX} {δ : List Sl} {r : Rs} (e : f δ = some (.inl r)) : fo f δ = some r := by unfold fo; rw [e]
theorem fo_some {f : EFX} {δ : List Sl} {r : Rs} (e : fo f δ = some r) : f δ = some (.inl r) := by
  unfold fo at e
  split at e
  · rename_i r' h; cases e; exact h
  · cases e
theorem tDX_ok {f : EFX} {σ : L2.St} {H : Hp} {Q : VK} (h : tD X.K (fo f) σ H Q) : tDX X EX f σ H Q := by
  obtain ⟨B, G0, G, δ, r, S, e, k⟩ := h
  exact ⟨B, G0, G, δ, .inl r, S, fo_some e, k⟩
theorem tDX_ex {f : EFX} {σ : L2.St} {H : Hp} {Q : VK} {B G0 G : Hp} {δ : List Sl} {c : Str} (S : Sim X.K B G0 G δ σ H) (e : f δ = some (.inr c)) (w : Wx X.mg EX σ H c) : tDX X EX f σ H Q := ⟨B, G0, G, δ, .inr c, S, e, w⟩
def spX (K : PySem.W.Frag) (mg : Str → Option Value) (F : FDX) : Sp := fun vs H Q E => ∃ G ds o, Same G H ∧ Reps K G ds vs ∧ F ds = some o ∧ (match o with
  | .inl r => ∀ v G' H', Same H H' → Same G G' → Same G' H' → (∀ b, H b ≠ none → G' b = G b) → Ret K H G' H' r v → Q v H'
  | .inr c => ∀ C H' e, mg c = some (.ref C) → Same H H' → E e (some C) H')
def fCallX (F : FDX) (fs : List EF) : EFX := fun δ => (evs fs δ).bind fun rs => (F (rs.map Rs.dat)).bind fun o => match o with
  | .inl r => if rs.all Rs.isSh || r.scal then some (.inl r) else none
  | .inr c => some (.inr c)
def Fo (F : FDX) : FD := fun ds => match F ds with
  | some (.inl r) => some r
  | _ => none
theorem callX_run {F : FDX} {fs : List EF} {σ : L2.St} {H : Hp} {Q : VK} (h : tDX X EX (fCallX F fs) σ H Q) : tAD X.K fs σ H fun vs H1 => spX X.K X.mg F vs H1 Q (EO (EX σ)) := by
  obtain ⟨B, G0, G, δ, o, S, e, k⟩ := h
  obtain ⟨rs, ers, e⟩ := Option.bind_eq_some_iff.mp e
  obtain ⟨o1, e1, e⟩ := Option.bind_eq_some_iff.mp e
  cases o1 with
  | inl r =>
    have e' : (if rs.all Rs.isSh || r.scal then some (Sum.inl r) else none) = some o := e
    by_cases hc : (rs.all Rs.isSh || r.scal) = true
    case neg => rw [if_neg hc] at e'; cases e'
    rw [if_pos hc] at e'
    cases e'
    have t : tD X.K (fCall (Fo F) fs) σ H Q := ⟨B, G0, G, δ, r, S, by
      unfold fCall
      rw [ers]
      show ((Fo F (rs.map Rs.dat)).bind fun r => if rs.all Rs.isSh || r.scal then some r else none) = some r
      unfold Fo
      rw [e1]
      show (if rs.all Rs.isSh || r.scal then some r else none) = some r
      rw [if_pos hc], k⟩
    obtain ⟨B, G0, G, δ, rs, S, ers, kk⟩ := call_run (E := E0) t
    refine ⟨B, G0, G, δ, rs, S, ers, fun vs G1 H1 S1 g1 q1 => ?_⟩
    obtain ⟨G2, ds, r2, a1, a2, a3, a4⟩ := kk vs G1 H1 S1 g1 q1
    refine ⟨G2, ds, .inl r2, a1, a2, ?_, a4⟩
    unfold Fo at a3
    split at a3
    · rename_i r' h; cases a3; exact h
    · cases a3
  | inr c =>
    cases e
    refine ⟨B, G0, G, δ, rs, S, ers, fun vs G1 H1 S1 g1 q1 => ⟨H1, _, .inr c, Same.refl H1, RsRs.repsH S1 q1, e1, fun C H' _ hm hs => ⟨C, rfl, ?_⟩⟩⟩
    exact k C H' hm (g1.hh.trans hs)
theorem pdx_call {x : Str} {f : Addr} {fd : FuncData} {ps : List Str} {k : Nat} {F : FDX} {p pos : Pos} {e : Expr} {es : List Expr} {fs : List EF} {P0 : Addr → Prop} (xr : XR X P0 EX) (bl : Blw X P0) (G : FnOk X.prog X.w X.K X.mg X.base (CX1 X.prog X.w X.mg) k f fd ps (spX X.K X.mg F)) (hr : Room k X.A) (hg : Gl X x) (hm : X.mg x = some (.ref f)) (hk : PySem.W.keepIn X.K (.ref f) = true)
    (hb : Binds X.K fd ps []) (ha : PAD X (e :: es) fs) (hdb : (x == ("__debug__" : Str)) = false := by decide +kernel) (he : starEach (e :: es) X.env = (false, eval e X.env) :: starEach es X.env := by rfl) (hpl : (backTo pos (starEach es X.env)).any (·.1) = false := by rfl) : PDX X EX (.Call (.Name x p) (e :: es) [] pos) (fCallX F fs) := by
  intro pins s σ H Q I h
  refine wpAny_Call_Name_kw (ld_glob I hg hm ?_ hdb)
  refine PySem.W.callWith_K (h₀ := X.base) I.ok.mod.kin hk (thn (ha pos pins s σ H _ I (callX_run h)) fun us s1 ⟨vs, H1, I1, r, q⟩ => ⟨I1.kIn, ?_⟩) he hpl
  have hl : us.length = ps.length := by rw [← r.length]; exact G.len _ _ _ _ q
  have hb' := hb s1 us I1.kIn (by rw [List.append_nil]; exact hl)
  rw [List.append_nil] at hb'
  refine wpAny_call (codeAny_mono (G.run X.A X.stack s1 H1 ⟨us, []⟩ us vs Q (EO (EX σ)) hr I1.env0 hb' r q) fun rr s' hq => ?_)
  cases rr with
  | error e => exact pass1 xr bl I1 hq
  | ok fl =>
    cases fl with
    | ret u => exact I1.after hq
    | next => exact False.elim hq
    | brk => exact False.elim hq
    | cont => exact False.elim hq
def SOk (X : Cx) (EX : L2.St → Addr → Hp → Prop) (B G0 G : Hp) (D : Ends) : Fl ⊕ Str → Prop
  | .inl fl => EndOk X.K B G0 G D fl
  | .inr c => ∀ σ, Wx X.mg EX σ B c
theorem SOk.mono {B G0 G G1 : Hp} {D : Ends} (g : Same G G1) : ∀ {o : Fl ⊕ Str}, SOk X EX B G0 G D o → SOk X EX B G0 G1 D o
  | .inl _, h => EndOk.mono g h
  | .inr _, h => h
def tSX (X : Cx) (EX : L2.St → Addr → Hp → Prop) (g : SFX) : TS := fun D σ H => ∃ B G0 G δ o, Sim X.K B G0 G δ σ H ∧ g δ = some o ∧ SOk X EX B G0 G D o
def PSX (X : Cx) (EX : L2.St → Addr → Hp → Prop) (st : Stmt) (g : SFX) : Prop := PS X st (tSX X EX g)
def PSsX (X : Cx) (EX : L2.St → Addr → Hp → Prop) (st : List Stmt) (g : SFX) : Prop := PSs X st (tSX X EX g)
def xl (g : SF) : SFX := fun δ => (g δ).map .inl
theorem xl_run {g : SF} {D : Ends} {σ : L2.St} {H : Hp} (h : tSX X EX (xl g) D σ H) : tSD X.K g D σ H := by
  obtain ⟨B, G0, G, δ, o, S, e, k⟩ := h
  obtain ⟨fl, e1, e⟩ := Option.map_eq_some_iff.mp e
  subst e
  exact ⟨B, G0, G, δ, fl, S, e1, k⟩
theorem psx_lift {st : Stmt} {g : SF} (h : PSD X st g) : PSX X EX st (xl g) := PS.imp h fun _ _ _ q => xl_run q
theorem pssx_lift {st : List Stmt} {g : SF} (h : PSsD X st g) : PSsX X EX st (xl g) := PSs.imp h fun _ _ _ q => xl_run q
def xSeq (g1 g2 : SFX) : SFX := fun δ => (g1 δ).bind fun o => match o with
  | .inl (.nx δ') => g2 δ'
  | o => some o
theorem psx_cons {st : Stmt} {rest : List Stmt} {g1 g2 : SFX} (h1 : PSX X EX st g1) (h2 : PSsX X EX rest g2) : PSsX X EX (st :: rest) (xSeq g1 g2) := PSs.imp (pss_cons h1 h2) fun D σ H h => by
  obtain ⟨B, G0, G, δ, o, S, e, k⟩ := h
  obtain ⟨o1, e1, e⟩ := Option.bind_eq_some_iff.mp e
  refine ⟨B, G0, G, δ, o1, S, e1, ?_⟩
  cases o1 with
  | inr c => cases e; exact k
  | inl f1 =>
    cases f1 with
    | nx δ' => exact fun G' σ' H' S' g' => ⟨B, G0, G', δ', o, S', e, k.mono g'⟩
    | rt r => cases e; exact k
    | bk δ' => cases e; exact k
    | ct δ' => cases e; exact k
theorem psx_one {st : Stmt} {g : SFX} (h : PSX X EX st g) : PSsX X EX [st] g := pss_one h
def xIf (c : BF') (g1 g2 : SFX) : SFX := fun δ => (c δ).bind fun b => if b = true then g1 δ else g2 δ
theorem psx_if {c : Expr} {a b : List Stmt} {pos : Pos} {fc : BF'} {g1 g2 : SFX} (hc : PTD X c fc) (ha : PSsX X EX a g1) (hb : PSsX X EX b g2) : PSX X EX (.If c a b pos) (xIf fc g1 g2) := PS.imp (ps_if hc ha hb) fun D σ H h => by
  obtain ⟨B, G0, G, δ, fl, S, e, k⟩ := h
  obtain ⟨b, eb, e⟩ := Option.bind_eq_some_iff.mp e
  refine ⟨B, G0, G, δ, b, S, eb, fun G1 H1 S1 g1 => ?_⟩
  cases b with
  | true => rw [if_pos rfl] at e ⊢; exact ⟨B, G0, G1, δ, fl, S1, e, k.mono g1.gg⟩
  | false => rw [if_neg Bool.false_ne_true] at e ⊢; exact ⟨B, G0, G1, δ, fl, S1, e, k.mono g1.gg⟩
def xSet (i : Nat) (f : EFX) : SFX := fun δ => (f δ).bind fun o => match o with
  | .inl r => r.sl.map fun s => .inl (.nx (δ.set i s))
  | .inr c => some (.inr c)
theorem setX_run {i : Nat} {f : EFX} {D : Ends} {σ : L2.St} {H : Hp} (h : tSX X EX (xSet i f) D σ H) : tAsg (tDX X EX f) (gName i) D σ H := by
  obtain ⟨B, G0, G, δ, o, S, e, k⟩ := h
  obtain ⟨o1, e1, e⟩ := Option.bind_eq_some_iff.mp e
  cases o1 with
  | inr c => cases e; exact tDX_ex S e1 ((k σ).mono S.bh)
  | inl r =>
    obtain ⟨s, es, e⟩ := Option.map_eq_some_iff.mp (show (r.sl.map fun s => Sum.inl (Fl.nx (δ.set i s))) = some o from e)
    subst e
    refine tDX_ok (set_run ⟨B, G0, G, δ, .nx (δ.set i s), S, ?_, k⟩)
    unfold gSet
    rw [fo_of e1]
    show (r.sl.map fun s => Fl.nx (δ.set i s)) = _
    rw [es]; rfl
theorem psx_set {i : Nat} {x : Str} {e : Expr} {f : EFX} {pos pos' : Pos} (hN : X.N.Nodup) (hi : X.N[i]? = some x) (hx : Loc X.env.scope x) (h : PDX X EX e f) (hs : swapsWith e (some (.Name x pos')) pos.line X.env = pure false := by rfl) (hf : X.fn x = true ∨ X.env.scope.names.lookup x = some .local := by first | exact .inl rfl | exact .inr rfl | assumption) : PSX X EX (.Assign [.Name x pos'] e pos) (xSet i f) :=
  PS.imp (ps_set hN hi hx h hs hf) fun _ _ _ q => setX_run q
end
end BF
set_option Elab.async false
set_option linter.all false
set_option maxRecDepth 100000
set_option maxHeartbeats 4000000
namespace BF
open PySem PySem.Spec L2 PyProof.Rows
noncomputable section
variable {X : Cx} {EX : L2.St → Addr → Hp → Prop}
theorem exc_obj {K : PySem.W.Frag} {h : Heap} {C : Addr} {bmB : List Value} {newId : String} (X : K.In h) (q : PySem.W.excIn K C bmB newId = true) :
    ∃ bm N nm qn bs hdct sn sub ab col dd k0 k1 k2 k3 k5 mN, h.get? C = some (excClassObj nm qn C N bs bm hdct sn sub ab col dd k0 k1 k2 k3 k5 newId) ∧ h.Ns N mN ∧ mN "__init__" = none ∧ OwnTail h bmB bm := by
  unfold PySem.W.excIn at q
  split at q
  · rename_i dd cd sl ho
    split at q
    · rename_i C' bm k0 k1 k2 k3 n k5 hm hs
      simp only [Bool.and_eq_true, beq_iff_eq, Bool.not_eq_true'] at q
      obtain ⟨⟨⟨⟨⟨rfl, rfl⟩, hdel⟩, ht⟩, hok⟩, hni⟩ := q
      obtain ⟨nm, bs, mro, ns, qn, hd, sn, sub, ab, col, del⟩ := cd
      dsimp only at hm hdel hok hni
      subst hm hdel
      have hsl : sl = #[k0, k1, k2, k3, some (.builtin n), k5] := by
        obtain ⟨l⟩ := sl
        simp only at hs
        rw [hs]
      subst hsl
      exact ⟨bm, ns, nm, qn, bs, hd, sn, sub, ab, col, dd, k0, k1, k2, k3, k5, _, X _ _ ho, .of_isNs (PySem.W.isNs_of_in X hok), PySem.W.nsMap_none_of_in X hok hni, PySem.W.tail_of_in X ht⟩
    · cases q
  · cases q
abbrev bmVE : List Value := [.type "ValueError", .type "Exception", .type "BaseException", .type "object"]
def xRaise (c : Str) (f : EF) : SFX := fun δ => (f δ).map fun _ => .inr c
theorem psx_raise {x : Str} {C : Addr} {e : Expr} {f : EF} {np cpos pos : Pos} {P0 : Addr → Prop} (xr : XR X P0 EX) (bl : Blw X P0) (hc : X.calm = true) (hg : Gl X x) (hm : X.mg x = some (.ref C)) (q : PySem.W.excIn X.K C bmVE "ValueError.__new__" = true) (h : PD X e f)
    (hdb : (x == ("__debug__" : Str)) = false := by decide +kernel) (he : starEach [e] X.env = (false, eval e X.env) :: starEach [] X.env := by rfl) : PSX X EX (.Raise (some (.Call (.Name x np) [e] [] cpos)) none pos) (xRaise x f) := by
  intro pins s σ H D I h'
  obtain ⟨B, G0, G, δ, o, S, ee, k⟩ := h'
  obtain ⟨r, er, ee⟩ := Option.map_eq_some_iff.mp ee
  subst ee
  obtain ⟨tl, N, nm, q1, bs, hdct, sn, sub, ab, col, dd, k0, k1, k2, k3, k5, mN, hC, hN, hni, T⟩ := exc_obj I.ok.mod.kin q
  have FB := PySem.F.excBase_ValueError
  refine wpAny_Raise_call_subT (C := C) (nm := nm) (q := q1) (N := N) (bs := bs) (bm := tl) (hdct := hdct) (sn := sn) (sub := sub) (ab := ab) (col := col) (dd := dd) (k0 := k0) (k1 := k1) (k2 := k2) (k3 := k3) (k5 := k5)
    FB (mN := mN) (T.hasType FB.hasBase) (I.ok.hd hc) (by rw [he]; rfl) hni (ld_glob I hg hm ⟨rfl, ?_⟩ hdb)
  have ha := pa_cons h pa_nil he cpos pins s σ H (fun vs H1 => vs.length = 1 ∧ Same B H1) I ⟨B, G0, G, δ, r, S, er, fun v G1 H1 S1 g1 q1 => ⟨rfl, S1.bh⟩⟩
  rw [he] at ha ⊢
  refine Calls.evalArgs_plain (wpAny_mono ha (fun us s2 ⟨vs, H2, I2, r2, hl, hb⟩ => ?_) fun _ _ z => z)
  have kk := I2.bk
  refine ⟨rfl, ?_, kk _ _ hC, hN.keeps kk, T.keeps kk, fun h' a mx => ?_⟩
  · show us.length ≤ sizeLine
    rw [← r2.length, hl]; decide
  · have I3 : Inv X pins σ H2 { s2 with heap := h', toks := s2.toks } := I2.kept mx.keeps
    refine xr pins σ H2 _ a C I3 (.inl ⟨?_, ?_, ?_⟩) (k σ C H2 hm hb)
    · intro z
      obtain ⟨o', z'⟩ := bl pins σ H2 s2 I2 a z
      rw [mx.new] at z'; cases z'
    · cases z : H2 a with
      | none => rfl
      | some o =>
        obtain ⟨u, z'⟩ := objOk_there (I2.hok a o z)
        rw [mx.new] at z'; cases z'
    · obtain ⟨t, e1, _, _⟩ := mx.there
      exact ⟨_, _, e1, rfl, ⟨rfl, _, rfl⟩, rfl⟩
def xApp (i : Nat) (f : EFX) : SFX := fun δ => (own? i δ).bind fun ds => (f δ).bind fun o => match o with
  | .inl r => if r.fz.isSh && decide (ds.length < sizeLine) then some (.inl (.nx (δ.set i (.ow (ds ++ [r.dat]))))) else none
  | .inr c => some (.inr c)
theorem psx_app (i : Nat) {x : Str} {e : Expr} {f : EFX} {p apos cpos pos : Pos} (hv : PE X (.Name x p) (tVar i)) (h : PDX X EX e f) (hbase : attributeBase (.Name x p) "append" X.env (eval (.Name x p) X.env) = eval (.Name x p) X.env := by rfl)
    (hfew : ((backTo cpos (starEach [e] X.env)).all (fun x => !x.1) && (backToKw cpos (keywordEach [] X.env)).all (fun x => x.1.isSome) && decide ([e].length + ([] : List Keyword).length + (if ([] : List Keyword).isEmpty then 0 else 1) < 30)) = true := by rfl)
    (hline : (apos.endLine == cpos.line) = true := by rfl) (hs : starEach [e] X.env = (false, eval e X.env) :: starEach [] X.env := by rfl) (hsw : swapsWith (.Call (.Attribute (.Name x p) "append" apos) [e] [] cpos) none pos.line X.env = pure false := by rfl) :
    PSX X EX (.Expr (.Call (.Attribute (.Name x p) "append" apos) [e] [] cpos) pos) (xApp i f) := by
  refine PS.imp (ps_expr (pe_bm PySem.F.plainAttrs_list PySem.F.slot_list_append PySem.F.type_list_append mt_append hv (pa_cons h pa_nil hs) hbase hfew hline hs) hsw) fun D σ H h => ?_
  obtain ⟨B, G0, G, δ, o, S, e, k⟩ := h
  obtain ⟨ds, eds, e⟩ := Option.bind_eq_some_iff.mp e
  obtain ⟨o1, e1', e⟩ := Option.bind_eq_some_iff.mp e
  have ho := own_some eds
  obtain ⟨p, xs, e1, e2, e3, e4, rr⟩ := S.slot i _ ho
  refine ⟨_, e1, .inl ⟨rfl, xs, SqL.of e2⟩, ?_⟩
  cases o1 with
  | inr c => cases e; exact tDX_ex S e1' ((k σ).mono S.bh)
  | inl r =>
    have e' : (if r.fz.isSh && decide (ds.length < sizeLine) then some (Sum.inl (Fl.nx (δ.set i (.ow (ds ++ [r.dat]))))) else none) = some o := e
    by_cases hc : (r.fz.isSh && decide (ds.length < sizeLine)) = true
    case neg => rw [if_neg hc] at e'; cases e'
    rw [if_pos hc] at e'
    cases e'
    rw [Bool.and_eq_true] at hc
    refine tDX_ok (tD_fz ⟨B, G0, G, δ, r.fz, S, fz_some (fo_of e1'), fun v G1 H1 S1 g1 q => ?_⟩)
    have hdat := Rs.fz_dat r
    cases hr : r.fz with
    | ow _ => rw [hr] at hc; exact absurd (show false = true from hc.1) Bool.false_ne_true
    | al _ _ => rw [hr] at hc; exact absurd (show false = true from hc.1) Bool.false_ne_true
    | ft _ _ => rw [hr] at hc; exact absurd (show false = true from hc.1) Bool.false_ne_true
    | sh d =>
      rw [hr] at q hdat
      have hq : Rep X.K G1 d v := q
      have hd : r.dat = d := hdat.symm
      have e2' := g1.hh _ _ e2
      have rr1 := rr.mono g1.gg
      refine ⟨p, xs, v, rfl, rfl, e2', by rw [← rr.length]; exact of_decide_eq_true hc.2, ?_⟩
      rw [hd] at k
      exact k G1 σ _ (S1.write ho e1 (rr1.append (Reps.cons hq Reps.nil))) g1.gg
end
end BF
set_option Elab.async false
set_option linter.all false
set_option maxRecDepth 100000
set_option maxHeartbeats 4000000
namespace BF
open PySem PySem.Spec L2 PyProof.Rows
noncomputable section
variable {X : Cx} {EX : L2.St → Addr → Hp → Prop}
def loopX (t : Tg) (b : SFX) : List Dm → List Sl → Option (Fl ⊕ Str)
  | [], δ => some (.inl (.nx δ))
  | d :: r, δ => (setT t d δ).bind fun δ1 => (b δ1).bind fun o => match o with
    | .inl (.nx δ') => loopX t b r δ'
    | .inl (.ct δ') => loopX t b r δ'
    | .inl (.bk δ') => some (.inl (.nx δ'))
    | .inl (.rt r) => some (.inl (.rt r))
    | .inr c => some (.inr c)
def xFor (src : IF) (t : Tg) (b : SFX) : SFX := fun δ => (src δ).bind fun ds => loopX t b ds δ
theorem psx_for {tg iter : Expr} {body : List Stmt} {pos : Pos} {src : IF} {t : Tg} {b : SFX} (hp : PassesOwn (model X.prog X.w) X.A X.env X.xe) (hc : X.calm = true) (hi : PID X tg iter src) (hg : PGD X tg t) (hb : PSsX X EX body b)
    (hs : ∀ x, foldedSetIterable iter X.env x = pure x := by intro _; rfl) : PSX X EX (.For tg iter body [] pos) (xFor src t b) := PS.imp (ps_for hp hc hi hg hb hs) fun D σ H h => by
  obtain ⟨B, G0, G, δ, fl, S, e, k⟩ := h
  obtain ⟨ds, eds, e⟩ := Option.bind_eq_some_iff.mp e
  refine ⟨B, G0, G, δ, ds, S, eds, fun J G1 H1 S1 g1 jd => ?_⟩
  refine ⟨fun i m σ H => m = ds.length - i ∧ i ≤ ds.length ∧ ∃ G2 δ, Sim X.K B G0 G2 δ σ H ∧ Same G1 G2 ∧ loopX t b (ds.drop i) δ = some fl, ⟨ds.length, by simp, Nat.zero_le _, G1, δ, S1, Same.refl G1, e⟩, ?_⟩
  rintro i m σ2 H2 ⟨rfl, hi, G2, δ2, S2, g2, e2⟩
  obtain ⟨jg, js⟩ := jd i H2 G2 g2 S2.gh
  by_cases hlt : i < ds.length
  · have hd : ds[i]? = some ds[i] := List.getElem?_eq_getElem hlt
    obtain ⟨go, yl⟩ := jg _ hd
    rw [List.drop_eq_getElem_cons hlt] at e2
    obtain ⟨δ3, e3, e2⟩ := Option.bind_eq_some_iff.mp (show ((setT t ds[i] δ2).bind fun δ1 => (b δ1).bind fun o => match o with
      | .inl (.nx δ') => loopX t b (ds.drop (i + 1)) δ'
      | .inl (.ct δ') => loopX t b (ds.drop (i + 1)) δ'
      | .inl (.bk δ') => some (.inl (.nx δ'))
      | .inl (.rt r) => some (.inl (.rt r))
      | .inr c => some (.inr c)) = some fl from e2)
    obtain ⟨f4, e4, e2⟩ := Option.bind_eq_some_iff.mp e2
    refine .inr ⟨go, fun σ' H' => ∃ G5 δ5, Sim X.K B G0 G5 δ5 σ' H' ∧ Same G1 G5 ∧ loopX t b (ds.drop (i + 1)) δ5 = some fl, fun σ' H' h => ⟨ds.length - (i + 1), by omega, rfl, hlt, h⟩, fun x H3 y => ?_⟩
    obtain ⟨G3, g3, gh3, rx⟩ := yl x H3 y
    refine ⟨B, G0, G3, δ2, ds[i], δ3, S2.ext g3 gh3, rx, e3, fun σ4 S4 _ => ⟨B, G0, G3, δ3, f4, S4, e4, ?_⟩⟩
    have g13 : Same G1 G3 := g2.trans g3.gg
    cases f4 with
    | inr c => cases e2; exact k
    | inl f5 =>
      cases f5 with
      | nx δ' => exact fun G' σ' H' S' g' => ⟨G', δ', S', g13.trans g', e2⟩
      | ct δ' => exact fun G' σ' H' S' g' => ⟨G', δ', S', g13.trans g', e2⟩
      | bk δ' => cases e2; exact fun G' σ' H' S' g' => k G' σ' H' S' (g1.gg.trans (g13.trans g'))
      | rt r => cases e2; exact fun δ' G' σ' H' v S' g' q => k δ' G' σ' H' v S' (g1.gg.trans (g13.trans g')) q
  · have hi' : i = ds.length := Nat.le_antisymm hi (Nat.not_lt.mp hlt)
    subst hi'
    rw [List.drop_length] at e2
    cases e2
    exact .inl ⟨js (Nat.le_refl _), k G2 σ2 H2 S2 (g1.gg.trans g2)⟩
def bodyX (np nN : Nat) (g : SFX) : FDX := fun ds => if ds.length = np then (match g (ds.map Sl.sh ++ List.replicate (nN - np) Sl.un) with
  | some (.inl (.rt r)) => some (.inl r)
  | some (.inl (.nx _)) => some (.inl (.sh .non))
  | some (.inr c) => some (.inr c)
  | _ => none) else none
abbrev EE (E : XK) : L2.St → Addr → Hp → Prop := fun _ C H' => ∀ e, E e (some C) H'
theorem fnX {P : Program} {w : World} {K : PySem.W.Frag} {mg : Str → Option Value} {base : Heap} {x qual : Str} {st : Stmt} {f : Addr} {fd : FuncData} {N ps : List Str} {k : Nat} {g : SFX} (F : Fun K x qual st f fd) (S : FnScope N ps (defScope st))
    (hb : ∀ (cdv : Value) (A : Around) (outer : List Env) (s : Shared) (H : Hp) (E : XK), Room k (A.deeper (PyProof.Rows.envOfC qual (defScope st) s.heap.objs.size f cdv)) → PSsX (cxOf (CX1 P w mg) P w K mg base N qual (defScope st) f cdv A outer s H E) (EE E) (defBody st) g) :
    FnOk P w K mg base (CX1 P w mg) (k + 1) f fd ps (spX K mg (bodyX ps.length N.length g)) := by
  obtain ⟨oc, od, kV, doc, pm, an, cdv, ct, osl, rfl, lk, hcd⟩ := F.ex
  refine fn_of lk hcd S (fun vs H Q E h => ?_) (fun A outer s H vs Q E hr h => ⟨_, hb cdv A outer s H E hr, ?_⟩)
  · obtain ⟨G, ds, r, _, rr, e, _⟩ := h
    unfold bodyX at e
    split at e
    · rename_i hl; rw [← rr.length, hl]
    · cases e
  · obtain ⟨G, ds, r, sm, rr, e, k⟩ := h
    unfold bodyX at e
    split at e
    case isFalse => cases e
    rename_i hl
    have S0 := sim_start (N := N) sm rr
    rw [hl] at S0
    cases q : g (ds.map Sl.sh ++ List.replicate (N.length - ps.length) Sl.un) with
    | none => rw [q] at e; cases e
    | some o =>
      rw [q] at e
      refine ⟨H, G, G, _, o, S0, q, ?_⟩
      cases o with
      | inr c =>
        cases e
        exact fun _ C H' hm hs e => k C H' e hm hs
      | inl fl =>
        cases fl with
        | rt r' =>
          cases e
          exact fun δ' G' σ' H' v S' g' ret => k v G' H' S'.bh g' S'.gh S'.gb ret
        | nx δ' =>
          cases e
          exact fun G' σ' H' S' g' => k .non G' H' S'.bh g' S'.gh S'.gb (show Rep K G' .non .non from rep_scal (d := .non) rfl)
        | bk δ' => cases e
        | ct δ' => cases e
end
end BF
set_option Elab.async false
set_option linter.all false
set_option maxRecDepth 100000
set_option maxHeartbeats 4000000
namespace BF
open PySem PySem.Spec L2 PyProof.Rows
noncomputable section
structure Dfc (X : Cx) : Prop where
  ex : X.ex = []
  pn : X.pn = []
  calm : X.calm = true
  stk : X.stack = X.env :: X.outer
  frm : X.env.frame = some X.env.locals
theorem dfc_cxOf {CX : CXT} {P : Program} {w : World} {K : PySem.W.Frag} {mg : Str → Option Value} {base : Heap} {N : List Str} {qual : Str} {scope : Scope} {f : Addr} {cd : Value} {A : Around} {outer : List Env} {s : Shared} {H : Hp} {E : XK} :
    Dfc (cxOf CX P w K mg base N qual scope f cd A outer s H E) := ⟨rfl, rfl, rfl, rfl, rfl⟩
theorem FlyT.same {P0 : Addr → Prop} {h h' : Heap} {H : Hp} {a C D : Addr} {m : Str → Option Value} (f : FlyT P0 H h a C) (hn : h.Ns D m) (sb : Heap.SameBut D h h') : FlyT P0 H h' a C := by
  obtain ⟨f1, f2, T, u, t1, t2, oe, vs, oT, ts, e1, e2, e3, e4, e5, e6, e7, e8⟩ := f
  obtain ⟨o, es, ep, ho, hd, _⟩ := hn
  have ne : ∀ b ob ws, h.get? b = some ob → ob.data = .fields ws → b ≠ D := fun b ob ws e d z => by
    rw [z, ho] at e; cases e; rw [hd] at d; cases d
  exact ⟨f1, f2, T, u, t1, t2, oe, vs, oT, ts, (sb.2 a (ne a _ _ e1 e3.1)).trans e1, e2, e3, e4, e5, (sb.2 T (ne T _ _ e6 e7)).trans e6, e7, e8⟩
theorem pass_on {M : Model} {A : Around} {E : Value → Shared → Prop} {s : Shared} {P0 : Addr → Prop} {H : Hp} {a C : Addr} {what : String} {env : Env} {α : Type} {Q : α → Shared → Prop} (f : FlyT P0 H s.heap a C) (h : ∀ h', Nt P0 H [] s.heap h' → FlyT P0 H h' a C → E (.ref a) { s with heap := h' }) :
    wpAny M A (PySem.passOn what (.ref a) env : Sem α) Q E s := by
  have f' := f
  obtain ⟨f1, f2, T, u, t1, t2, oe, vs, oT, ts, e1, e2, e3, e4, e5, e6, e7, e8⟩ := f'
  unfold PySem.passOn
  refine wpAny_bind (wpAny_field e1 e3.1 e4 ?_)
  rw [if_neg (show ¬ ((Value.ref T == Value.none) = true) from by simp)]
  refine wpAny_bind (flight_strong f fun h' n fl => ?_)
  exact wpAny_throw (h h' n fl)
theorem xr_block {X : Cx} {EX : Addr → Hp → Prop} (d : Dfc X) (xr : XR X (In_ X.s₀.heap) (fun _ => EX)) {pins : List (Addr × Obj)} {σ : L2.St} {H : Hp} {s : Shared} {scope : Scope} {fp : List Addr} {N' : List Str} {D : Value} {use : Option (Value → Sem Unit)} {Q : Value → Shared → Prop}
    (I : Inv X pins σ H s) (hf : ∀ b ∈ fp, FpOk X pins H b) :
    XR (Xc X scope s.heap.objs.size s H fp N' (notedBy (model X.prog X.w) X.A (compEnvC scope (clOf X.env.cells scope.names []) s.heap.objs.size X.env) fun e s' => compPost (model X.prog X.w) X.A X.xe use Q D s.heap.objs.size (.error e) s')) (fun b => In_ s.heap b ∧ b ∉ fp) (fun _ => EX) ∧
    Blw (Xc X scope s.heap.objs.size s H fp N' (notedBy (model X.prog X.w) X.A (compEnvC scope (clOf X.env.cells scope.names []) s.heap.objs.size X.env) fun e s' => compPost (model X.prog X.w) X.A X.xe use Q D s.heap.objs.size (.error e) s')) (fun b => In_ s.heap b ∧ b ∉ fp) := by
  generalize hE : (notedBy (model X.prog X.w) X.A (compEnvC scope (clOf X.env.cells scope.names []) s.heap.objs.size X.env) fun e s' => compPost (model X.prog X.w) X.A X.xe use Q D s.heap.objs.size (.error e) s') = E
  have bl : Blw (Xc X scope s.heap.objs.size s H fp N' E) (fun b => In_ s.heap b ∧ b ∉ fp) := fun pins' σ' H' s' I' b e => by
    obtain ⟨o, e'⟩ := of_in e.1
    exact I'.base.there b o e' fun hb => e.2 (show b ∈ fp from hb)
  refine ⟨?_, bl⟩
  intro pins' σ' H' s' a C I' fly ex
  have I0 : Inv (Xc X scope s.heap.objs.size s H fp N' E) [] σ' H' s' := I'.pins_of fun p hp => absurd hp (by simp)
  show E (.ref a) s'
  rw [← hE]
  have hfr : X.A.frames = some (X.env :: X.outer) := by rw [← d.stk]; exact I.ok.frames
  have hst : s'.heap.FunFrames X.base (X.env :: X.outer) := by rw [← d.stk]; exact I'.stack
  show wpAny (model X.prog X.w) X.A (noteFrame (.ref a) X.env) _ _ s'
  refine note_strong hfr hst d.frm fly (fun b o e => objOk_there (I'.hok b o e)) (bl pins' σ' H' s' I') fun h1 n1 f1 => ?_
  have n1' : Nt (fun b => In_ s.heap b ∧ b ∉ fp) H' (frs (Xc X scope s.heap.objs.size s H fp N' E).stack) s'.heap h1 := by
    show Nt _ _ (frs X.stack) _ _
    rw [d.stk]; exact n1
  have I1 : Inv (Xc X scope s.heap.objs.size s H fp N' E) [] σ' H' { s' with heap := h1 } := inv_nt (fun b o e hx => ⟨in_of (show s.heap.get? b = some o from e), show b ∉ fp from hx⟩) (fun p hp => absurd (show p ∈ X.pn ++ [] from hp) (by rw [d.pn]; simp)) I0 n1'
  obtain ⟨m1, hn1, _⟩ := I1.loc
  refine ⟨m1, hn1, fun h2 sb cenv hcl => pass_on (s := { s' with heap := h2 }) (f1.same hn1 sb) fun h3 n3 f3 => ?_⟩
  have I2 : Inv X [] σ H' { s' with heap := h2 } := (comp_back I hf I1 sb).pins_of fun p hp => absurd hp (by simp)
  have inc : ∀ b o, X.s₀.heap.get? b = some o → In_ s.heap b ∧ b ∉ fp := fun b o e => by
    obtain ⟨o', z⟩ := I.base.there b o e (by rw [d.ex]; simp)
    refine ⟨in_of z, fun hb => ?_⟩
    rcases (hf b hb).2.2.2.1 with q | q
    · rw [d.ex] at q; exact absurd q (by simp)
    · exact absurd (Nat.lt_of_lt_of_le (Heap.lt_size e) q) (Nat.lt_irrefl _)
  have I3 : Inv X [] σ H' { s' with heap := h3 } := inv_nt (s := { s' with heap := h2 }) (fun b o e _ => inc b o e) (fun p hp => absurd hp (by rw [d.pn]; simp)) I2 (n3.mono fun _ z => absurd z (by simp))
  exact xr [] σ H' _ a C I3 (.inr (f3.back fun b hb => by
    obtain ⟨o, e⟩ := of_in hb
    exact inc b o e)) ex
variable {X : Cx} {EX : Addr → Hp → Prop}
theorem comp_blockX {pins : List (Addr × Obj)} {σ : L2.St} {H : Hp} {s : Shared} {elt iter tg : Expr} {scope : Scope} {pos : Pos} {g : TG} {te : TE} {N' : List Str} {ix : List (Option Nat)} {use : Option (Value → Sem Unit)} {QQ : Value → Shared → Prop} {E : Value → Shared → Prop} {it : Addr} {fp : List Addr} {tn : Nat → Heap → Prop} {J : It} {Q : Addr → Hp → Prop}
    (d : Dfc X) (xr : XR X (In_ X.s₀.heap) (fun _ => EX)) (ck : CompOk X.N X.env.scope scope N' ix) (hg : ∀ C s H fp E, PG (Xc X scope C s H fp N' E) tg g) (he : ∀ C s H fp E P0, XR (Xc X scope C s H fp N' E) P0 (fun _ => EX) → Blw (Xc X scope C s H fp N' E) P0 → PE (Xc X scope C s H fp N' E) elt te)
    (I : Inv X pins σ H s) (T : Turn X.prog X.w X.K tg J fp it tn) (st : tn 0 s.heap) (hf : ∀ b ∈ fp, FpOk X pins H b) (hR : ∀ D, H D = none → tCompW J g te ix σ H D (Q D))
    (hRR : ∀ D C s' H', FpOk X pins H' C → X.env.locals ≠ C → s'.os = s.os → (∃ m, s'.heap.Ns C m) → (∀ h'', Heap.SameBut C s'.heap h'' → Inv X pins σ H' { s' with heap := h'' }) → Q D H' → compPost (model X.prog X.w) X.A X.xe use QQ (.ref D) C (.ok .next) s') :
    wpAny (model X.prog X.w) X.A (newList []) (fun acc s₃ => wpAny (model X.prog X.w) X.A (newFunctionEnv scope X.env.globals (clOf X.env.cells scope.names []) [] X.env.qual none .none (some X.env)) (fun cenv s₄ =>
      codeAny (model X.prog X.w) X.A (.compStart (.ListComp elt [⟨tg, iter, [], 0⟩] scope pos) 0 (.ref it) acc { cenv with scope := relabel scope X.env }) (compPost (model X.prog X.w) X.A X.xe use QQ acc cenv.locals) s₄) E s₃) E s := by
  have hc := d.calm
  refine wpAny_newObj_type (wpAny_newFunctionEnv ck.cell (by intro y hy; simp at hy) (fun h₁ hns₁ hsb₁ => ?_) ck.kind)
  have I3 : Inv X pins σ (upd H s.heap.objs.size (.lst [])) { s with heap := s.heap.push { cls := .type "list", data := .seq ([] : List Value).toArray }, toks := s.toks } := I.lnew (its := []) (ys := []) .nil (by simp)
  have hfl : ∀ b ∈ fp, b < s.heap.objs.size := fun b hb => by
    obtain ⟨o, e, _⟩ := T.obj 0 _ st b hb
    exact Heap.lt_size e
  have hf3 : ∀ b ∈ fp, FpOk X pins (upd H s.heap.objs.size (.lst [])) b := fun b hb => by
    obtain ⟨f0, fr⟩ := hf b hb
    exact ⟨by rw [upd_ne (Nat.ne_of_lt (hfl b hb))]; exact f0, fr⟩
  obtain ⟨W, ⟨m0, w0⟩, turn⟩ := hR s.heap.objs.size I.fresh
  generalize eD : s.heap.objs.size = D at *
  have e3 : ({ s with heap := s.heap.push { cls := .type "list", data := .seq ([] : List Value).toArray }, toks := s.toks } : Shared) = { s with heap := s.heap.push { cls := .type "list", data := .seq ([] : List Value).toArray } } := rfl
  rw [e3] at I3
  generalize es3 : ({ s with heap := s.heap.push { cls := .type "list", data := .seq ([] : List Value).toArray } } : Shared) = s3 at *
  have os3 : s3.os = s.os := by rw [← es3]
  have hp3 : s3.heap = s.heap.push { cls := .type "list", data := .seq ([] : List Value).toArray } := by rw [← es3]
  have hfl3 : ∀ b ∈ fp, b < s3.heap.objs.size := fun b hb => by
    rw [hp3, Heap.size_push]; exact Nat.lt_succ_of_lt (by rw [eD]; exact hfl b hb)
  have hns : ∃ m, h₁.Ns s3.heap.objs.size m := ⟨_, hns₁⟩
  have hk : ∀ b o, s3.heap.get? b = some o → h₁.get? b = some o := fun b o e => hsb₁.extBut b o (Nat.ne_of_lt (Heap.lt_size e)) (Heap.get?_push_of_some _ e)
  obtain ⟨xrb, blb⟩ := xr_block (scope := scope) (N' := N') (D := .ref D) (use := use) (Q := QQ) d xr I3 hf3
  generalize hEb : (notedBy (model X.prog X.w) X.A (compEnvC scope (clOf X.env.cells scope.names []) s3.heap.objs.size X.env) fun e s' => compPost (model X.prog X.w) X.A X.xe use QQ (.ref D) s3.heap.objs.size (.error e) s') = Eb at xrb blb
  have I4 : ∀ t, Inv (Xc X scope s3.heap.objs.size s3 (upd H D (.lst [])) fp N' Eb) pins (sub ix σ) (upd H D (.lst [])) { s3 with heap := h₁, toks := t } := fun t => inv_comp I3 hf3 hfl3 ck hns hk
  have st4 : tn 0 h₁ := T.keep _ _ _ st fun b hb o e => hk b o (by rw [hp3]; exact Heap.get?_push_of_some _ e)
  have loop : ∀ s₄ : Shared, s₄ = { s3 with heap := h₁, toks := s3.toks + ([] : List (Str × Value)).length } →
      codeAny (model X.prog X.w) X.A (.compLoop (.ListComp elt [⟨tg, iter, [], 0⟩] scope pos) 0 (.ref it) (.ref D) (Xc X scope s3.heap.objs.size s3 (upd H D (.lst [])) fp N' Eb).env) (compPost (model X.prog X.w) X.A X.xe use QQ (.ref D) s3.heap.objs.size) s₄ := by
    rintro s₄ rfl
    have stat : ∀ {H2 : Hp}, (∀ b ∈ fp, H2 b = none) → ∀ b ∈ fp, FpOk (Xc X scope s3.heap.objs.size s3 (upd H D (.lst [])) fp N' Eb) pins H2 b := fun hn b hb => fpOk_c I3 (hfl3 b hb) hb (hf3 b hb) (hn b hb) ck
    refine compLoop_any (fun n s' => ∃ i H', Inv (Xc X scope s3.heap.objs.size s3 (upd H D (.lst [])) fp N' Eb) pins (sub ix σ) H' s' ∧ tn i s'.heap ∧ (∀ b ∈ fp, H' b = none) ∧ W i n H') ?_ m0 ⟨0, _, I4 _, st4, fun b hb => (hf3 b hb).1, w0⟩
    have eE : (notedBy (model X.prog X.w) X.A (Xc X scope s3.heap.objs.size s3 (upd H D (.lst [])) fp N' Eb).env fun e s' => compPost (model X.prog X.w) X.A X.xe use QQ (.ref D) s3.heap.objs.size (.error e) s') = Eb := hEb
    rw [eE]
    rintro n s5 ⟨i, H5, I5, st5, fr5, w5⟩
    rcases turn i n H5 w5 with ⟨stop, qn⟩ | ⟨go, step⟩
    · refine thn (T.done (Xc X scope s3.heap.objs.size s3 (upd H D (.lst [])) fp N' Eb) rfl rfl rfl hc i pins s5 _ H5 _ I5 (stat fr5) st5 stop) fun r s6 ⟨hr, I6⟩ => ?_
      subst hr
      obtain ⟨m6, hn6, _⟩ := I6.loc
      exact hRR D s3.heap.objs.size s6 H5 (I3.fpOk (Nat.le_refl _) I6.free) (Nat.ne_of_lt I3.lt) (I6.os.trans os3) ⟨m6, hn6⟩ (fun h'' sb => comp_back I3 hf3 I6 sb) qn
    · refine thn (T.item (Xc X scope s3.heap.objs.size s3 (upd H D (.lst [])) fp N' Eb) rfl rfl rfl hc i pins s5 _ H5 _ I5 (stat fr5) st5 go) fun r s6 ⟨u, hr, h6⟩ => ?_
      subst hr
      refine thn h6 fun _ s7 ⟨x, H7, I7, r7, y7, st7, fr7⟩ => ?_
      have I7' := I7.pinned (stat fr7) (T.obj _ _ st7)
      refine thn (hg _ _ _ _ _ _ s7 (sub ix σ) H7 x u _ I7' r7 (step x H7 y7)) fun _ s8 ⟨σ8, H8, I8, wk8, q8⟩ => ?_
      refine thn (he _ _ _ _ _ _ xrb blb _ s8 σ8 H8 _ I8 q8) fun v9 s9 ⟨y, H9, I9, r9, q9⟩ => ?_
      obtain ⟨ys, hD, hz, m', hm, w'⟩ := q9
      have ap := mt_append (X := Xc X scope s3.heap.objs.size s3 (upd H D (.lst [])) fp N' Eb) _ s9 σ8 H9 (.ref D) [y] (.ref D) [v9] (fun _ H10 => W (i + 1) m' H10) I9 rfl (.cons r9 .nil) ⟨D, ys, y, rfl, rfl, hD, hz, w'⟩
      refine thn ap fun u10 s10 ⟨z10, H10, I10, _, w10⟩ => ?_
      refine ⟨m', hm, i + 1, H10, ?_, T.keep _ _ _ st7 fun b hb o e => (I10.pin (b, o) (List.mem_append_right _ (List.mem_append_right _ (mem_pinsAt hb e)))).1, fun b hb => ?_, w10⟩
      · refine I10.unpinned.weak ?_ fun j v e => ?_
        · exact (I5.len).trans I10.len.symm
        · exact wk8 j v e
      · obtain ⟨o, e, d⟩ := T.obj _ _ st7 b hb
        exact (I10.pin (b, o) (List.mem_append_right _ (List.mem_append_right _ (mem_pinsAt hb e)))).2.1
  exact codeAny_compStart_list (loop _ rfl) (T.self _ 0 _ _ _ st4 (loop _ rfl))
theorem ps_setCompX {elt iter tg : Expr} {scope : Scope} {pos spos pos' : Pos} {wi : TI} {g : TG} {te : TE} {N' : List Str} {ix : List (Option Nat)} {i : Nat} {y : Str} (d : Dfc X) (xr : XR X (In_ X.s₀.heap) (fun _ => EX)) (ck : CompOk X.N X.env.scope scope N' ix) (hi : PI X tg iter wi)
    (hg : ∀ C s H fp E, PG (Xc X scope C s H fp N' E) tg g) (he : ∀ C s H fp E P0, XR (Xc X scope C s H fp N' E) P0 (fun _ => EX) → Blw (Xc X scope C s H fp N' E) P0 → PE (Xc X scope C s H fp N' E) elt te) (hN : X.N.Nodup) (hiy : X.N[i]? = some y) (hy : Loc X.env.scope y)
    (hsw : swapsWith (.ListComp elt [⟨tg, iter, [], 0⟩] scope pos) (some (.Name y pos')) spos.line X.env = pure true := by rfl) (hs : ∀ x, foldedSetIterable iter X.env x = pure x := by intro _; rfl)
    (hf : X.fn y = true ∨ X.env.scope.names.lookup y = some .local := by first | exact .inl rfl | exact .inr rfl | assumption) :
    PS X (.Assign [.Name y pos'] (.ListComp elt [⟨tg, iter, [], 0⟩] scope pos) spos) (tAsg (tComp wi g te ix) (gName i)) := by
  intro pins s σ H D I h
  rw [exec_Assign_Name_used _ _ _ _ hsw]
  refine wpAny_bind (wpAny_standAt (wpAny_bind ?_))
  show wpAny _ X.A (do let _ ← comprehension (.ListComp elt [⟨tg, iter, [], 0⟩] scope pos) scope X.env _ (newList []) false (eval iter X.env) (some (assign (.Name y pos') X.env))) _ _ s
  refine wpAny_bind (wpAny_mono (wpAny_comprehension_free (use := some (assign (.Name y pos') X.env)) (Q := fun _ s' => SP X pins D .next s') rfl hs (hclos_of I ck) ck.kind ck.loc
    (thn (hi pins s σ H _ I h) fun v s1 h1 => thn h1 fun itv s2 h2 => ?_)) (fun _ s' hq => wpAny_pure (wpAny_pure hq)) fun _ _ e => e)
  obtain ⟨it, fp, tn, J, H2, e, I2, T, st2, f2, q2⟩ := h2
  subst e
  refine comp_blockX (use := some (assign (.Name y pos') X.env)) (QQ := fun _ s' => SP X pins D .next s') d xr ck hg he I2 T st2 f2 q2 fun Dd C s' H' fC hLC _ hm hI q => ?_
  obtain ⟨m, hn⟩ := hm
  show wpAny _ X.A (assign (.Name y pos') X.env (.ref Dd)) _ _ _
  have I0 : Inv X pins σ H' s' := hI s'.heap (.refl ..)
  refine wpAny_assign_Name (store_ok2 (v := .ref Dd) I0 hN hiy hy rfl (fun s2 I2 ⟨a, sb2, ha⟩ => ?_) hf)
  obtain ⟨f0, f1, _, f3, f4, f5⟩ := fC
  have hCa : C ≠ a := by
    rcases ha with rfl | ha
    · exact Ne.symm hLC
    · exact Ne.symm (f4 _ _ ha)
  refine ⟨m, hn.sameBut sb2 hCa, fun h' sb => ?_⟩
  exact ⟨_, H', I2.turned (t' := s2.toks) (fun b o hb e => (sb.2 b hb).trans e) f0 f1 f3 f4 f5, q⟩
end
end BF
set_option Elab.async false
set_option linter.all false
set_option maxRecDepth 100000
set_option maxHeartbeats 4000000
namespace BF
open PySem PySem.Spec L2 PyProof.Rows
noncomputable section
variable {X : Cx} {EX : Addr → Hp → Prop}
def cmb (zs : List Dm) : List Dm ⊕ Str → List Dm ⊕ Str
  | .inl ys => .inl (zs ++ ys)
  | .inr c => .inr c
def mapX (t : Tg) (f : EFX) (δ : List Sl) : List Dm → Option (List Dm ⊕ Str)
  | [] => some (.inl [])
  | d :: r => (setT t d δ).bind fun δ1 => (f δ1).bind fun o => match o with
    | .inl y => if y.fz.isSh then (mapX t f δ r).map (cmb [y.dat]) else none
    | .inr c => some (.inr c)
def oOw : List Dm ⊕ Str → Rs ⊕ Str
  | .inl ys => .inl (.ow ys)
  | .inr c => .inr c
def xComp (src : IF) (t : Tg) (ix : List (Option Nat)) (f : EFX) : EFX := fun δ => (src δ).bind fun ds => if ds.length ≤ sizeLine then (mapX t f (subS ix δ) ds).map oOw else none
theorem cmb_cmb (zs : List Dm) (y : Dm) (o : List Dm ⊕ Str) : cmb zs (cmb [y] o) = cmb (zs ++ [y]) o := by
  cases o with
  | inl ys => show Sum.inl (zs ++ ([y] ++ ys)) = _; rw [← List.append_assoc]; rfl
  | inr c => rfl
theorem compX_run {src : IF} {t : Tg} {ix : List (Option Nat)} {f : EFX} (inj : Inj ix) (own : Own t ix) {σ : L2.St} {H : Hp} {Q : VK} (h : tDX X (fun _ => EX) (xComp src t ix f) σ H Q) : tComp (tI X.K src) (tGD X.K t) (tDX X (fun _ => EX) f) ix σ H Q := by
  obtain ⟨B, G0, G, δ, r, S, e, k⟩ := h
  obtain ⟨ds, eds, e⟩ := Option.bind_eq_some_iff.mp e
  by_cases hlen : ds.length ≤ sizeLine
  case neg => rw [if_neg hlen] at e; cases e
  rw [if_pos hlen] at e
  obtain ⟨o, eo, e⟩ := Option.map_eq_some_iff.mp e
  subst e
  refine ⟨B, G0, G, δ, ds, S, eds, fun J G1 H1 S1 g1 jd D hD => ?_⟩
  refine ⟨fun i m H2 => m = ds.length - i ∧ i ≤ ds.length ∧ ∃ G2 vs zs o2, Gr G1 H1 G2 H2 ∧ Same G2 H2 ∧ H2 D = some (.lst vs) ∧ G2 D = none ∧ Reps X.K G2 zs vs ∧ zs.length = i ∧ mapX t f (subS ix δ) (ds.drop i) = some o2 ∧ o = cmb zs o2, ⟨ds.length, by simp, Nat.zero_le _, G1, [], [], o, ⟨Same.refl G1, Same.upd_new hD, fun _ _ => rfl⟩, S1.gh.trans (Same.upd_new hD), upd_same, S1.g_free hD, Reps.nil, rfl, eo, by cases o <;> rfl⟩, ?_⟩
  rintro i m H2 ⟨rfl, hi, G2, vs, zs, o2, g2, gh2, e2, e3, rr, hzl, em, ho⟩
  obtain ⟨jg, js⟩ := jd i H2 G2 g2.gg gh2
  have S2 : Sim X.K B G0 G2 δ σ H2 := S1.ext g2 gh2
  by_cases hlt : i < ds.length
  · have hd : ds[i]? = some ds[i] := List.getElem?_eq_getElem hlt
    obtain ⟨go, yl⟩ := jg _ hd
    rw [List.drop_eq_getElem_cons hlt] at em
    obtain ⟨δ3, e4, em⟩ := Option.bind_eq_some_iff.mp (show ((setT t ds[i] (subS ix δ)).bind fun δ1 => (f δ1).bind fun o => match o with
      | .inl y => if y.fz.isSh then (mapX t f (subS ix δ) (ds.drop (i + 1))).map (cmb [y.dat]) else none
      | .inr c => some (.inr c)) = some o2 from em)
    obtain ⟨o1, e5, em⟩ := Option.bind_eq_some_iff.mp em
    refine .inr ⟨go, fun x H3 yx => ?_⟩
    obtain ⟨G3, g3, gh3, rx⟩ := yl x H3 yx
    have S3 := S2.ext g3 gh3
    refine ⟨B, G0, G3, subS ix δ, ds[i], δ3, S3.sub inj, rx, e4, fun σ4 S4 hk => ⟨fun j v hv => ?_, ?_⟩⟩
    · rw [hk j fun hj => ?_]
      · exact hv
      · have := own j hj
        rw [sub_at] at hv
        obtain ⟨o, eo, hv⟩ := Option.map_eq_some_iff.mp hv
        rw [List.getD_eq_getElem?_getD, eo] at this
        have this' : o = none := this
        subst this'
        cases hv
    · cases o1 with
      | inr c =>
        cases em
        have ho' : o = .inr c := ho
        subst ho'
        exact tDX_ex S4 e5 (fun C H' hm hs => k C H' hm (((g1.hh.trans g2.hh).trans g3.hh).trans hs))
      | inl y =>
        have em' : (if y.fz.isSh then (mapX t f (subS ix δ) (ds.drop (i + 1))).map (cmb [y.dat]) else none) = some o2 := em
        by_cases hsh : y.fz.isSh = true
        case neg => rw [if_neg hsh] at em'; cases em'
        rw [if_pos hsh] at em'
        obtain ⟨o3, eo3, em'⟩ := Option.map_eq_some_iff.mp em'
        refine tDX_ok (tD_fz ⟨B, G0, G3, δ3, y.fz, S4, fz_some (fo_of e5), fun w G5 H5 S5 g5 q5 => ?_⟩)
        have gg := g3.trans g5
        have hdat := Rs.fz_dat y
        cases hy : y.fz with
        | ow _ => rw [hy] at hsh; exact absurd (show false = true from hsh) Bool.false_ne_true
        | al _ _ => rw [hy] at hsh; exact absurd (show false = true from hsh) Bool.false_ne_true
        | ft _ _ => rw [hy] at hsh; exact absurd (show false = true from hsh) Bool.false_ne_true
        | sh dy =>
          rw [hy] at q5 hdat
          have hq : Rep X.K G5 dy w := q5
          have hdy : y.dat = dy := hdat.symm
          have eD : H5 D = some (.lst vs) := gg.hh _ _ e2
          have gD : G5 D = none := by rw [gg.nw D (by rw [e2]; simp)]; exact e3
          refine ⟨vs, eD, by rw [← rr.length]; omega, ds.length - (i + 1), by omega, rfl, hlt, G5, vs ++ [w], zs ++ [dy], o3, ⟨g2.gg.trans gg.gg, fun b u eb => ?_, fun b hb => ?_⟩, fun b u eb => ?_, upd_same, gD, (rr.mono gg.gg).append (Reps.cons hq Reps.nil), by rw [List.length_append, hzl]; rfl, eo3, ?_⟩
          · rw [upd_ne (ne_of_none eb hD)]; exact gg.hh _ _ (g2.hh _ _ eb)
          · have hb2 : H2 b ≠ none := by
              cases q : H1 b with
              | none => exact absurd q hb
              | some o => rw [g2.hh b o q]; simp
            rw [gg.nw b hb2, g2.nw b hb]
          · rw [upd_ne (ne_of_none eb gD)]; exact S5.gh _ _ eb
          · rw [ho, ← em', hdy, cmb_cmb]
  · have hi' : i = ds.length := Nat.le_antisymm hi (Nat.not_lt.mp hlt)
    subst hi'
    rw [List.drop_length] at em
    cases em
    refine .inl ⟨js (Nat.le_refl _), ?_⟩
    subst ho
    have k' : ∀ v G' H', Sim X.K B G0 G' δ σ H' → Gr G H G' H' → RsR X.K H G' H' δ σ (.ow (zs ++ [])) v → Q v H' := k
    rw [List.append_nil] at k'
    have k1 := KD.step ⟨S, k'⟩ S1 g1
    exact k1.out _ G2 H2 S2 g2 ⟨D, vs, rfl, e2, e3, hD, rr⟩
end
end BF
set_option Elab.async false
set_option linter.all false
set_option maxRecDepth 100000
set_option maxHeartbeats 4000000
namespace BF
open PySem PySem.Spec L2 PyProof.Rows
noncomputable section
section
variable {M : Model} {A : Around} {E : Value → Shared → Prop} {nm q nm' q' : Str} {C N C' N' : Addr} {bs bm bs' bm' : List Value} {hdct hdct' : Bool} {sn sn' : List Str} {sub sub' : List Value} {ab ab' : Bool} {col col' : Option Bool} {dd dd' : Option Addr} {k0 k1 k2 k3 k5 k0' k1' k2' k3' k5' : Option Value} {newId newId' : String}
theorem excM_own {s : Shared} {e : Addr} {oe : Obj} {Q : Bool → Shared → Prop}
    (hC : s.heap.get? C = some (excClassObj nm q C N bs bm hdct sn sub ab col dd k0 k1 k2 k3 k5 newId)) (hC' : s.heap.get? C' = some (excClassObj nm' q' C' N' bs' bm' hdct' sn' sub' ab' col' dd' k0' k1' k2' k3' k5' newId')) (he : s.heap.get? e = some oe) (hcls : oe.cls = .ref C) (hbase : bm'.contains (.type "BaseException") = true)
    (hm : (Value.ref C :: bm).contains (.ref C') = true) (hq : Q true s) : wpAny M A (excMatches (.ref e) (.ref C')) Q E s := by
  obtain ⟨h, g, d, t, os⟩ := s
  have hcB : (Value.ref C' :: bm').contains (.type "BaseException") = true := by rw [List.contains_cons, hbase, Bool.or_true]
  have f := tc_notTuple
  unfold excMatches
  repeat (first | (with_reducible refine wpAny_loadPart_at he ?_; rw [hcls]) | with_reducible refine wpAny_loadPart_at hC' ?_ | (with_reducible refine wpAny_isSubtype_exc hC' ?_; rw [hcB]) | (with_reducible refine wpAny_isSubtype_exc hC ?_; rw [hm]) | wp_step)
  exact hq
end
theorem exh_ok {P : Program} {w : World} {H : Hp} {h : Heap} {a C : Addr} {oe : Obj} (e : h.get? a = some oe) (c : oe.cls = .ref C) : ObjOk P w H h a (ExH a C) :=
  ⟨⟨oe, e, c⟩, ⟨oe, e⟩, fun h1 h2 ⟨o, e1, c1⟩ k => ⟨o, k o e1, c1⟩⟩
variable {X : Cx}
abbrev Xh (X : Cx) (a : Addr) : Cx := { X with A := X.A.mark (some (.ref a)), calm := false }
theorem inv_h {pins : List (Addr × Obj)} {σ : L2.St} {H : Hp} {s : Shared} (I : Inv X pins σ H s) (a : Addr) : Inv (Xh X a) pins σ H s :=
  ⟨⟨I.ok.mod, I.ok.kind, I.ok.glob, I.ok.blt, I.ok.above, I.ok.inj, I.ok.has, I.ok.cab, fun z => (by cases z), I.ok.frames, I.ok.stk, I.ok.exf, I.ok.bs, I.ok.bsz, I.ok.noex, I.ok.exfs, I.ok.funs, I.ok.frf⟩, I.os, I.bare, I.base, I.loc, I.cell, I.free, I.freeC, I.pin, I.hok, I.len⟩
theorem inv_unh {pins : List (Addr × Obj)} {σ : L2.St} {H : Hp} {s : Shared} {a : Addr} (ok : X.Ok) (I : Inv (Xh X a) pins σ H s) : Inv X pins σ H s :=
  ⟨ok, I.os, I.bare, I.base, I.loc, I.cell, I.free, I.freeC, I.pin, I.hok, I.len⟩
theorem inv_goes {M : Model} {A : Around} {E : Value → Shared → Prop} {pins : List (Addr × Obj)} {σ : L2.St} {H : Hp} {s : Shared} {n : Str} {l : Nat} {pos : Pos} {Q : Unit → Shared → Prop} (I : Inv X pins σ H s) (hN : X.N.Nodup) (hl : X.N[l]? = some n) (hn : X.env.scope.names.lookup n = some .local)
    (h : ∀ s', Inv X pins (σ.set l none) H s' → Q () s') : wpAny M A (do bindName X.env n .none; unbindBehindTheSuite X.env n pos) Q E s := by
  obtain ⟨m, hns, hlk⟩ := id I.loc
  have hcls : (X.env.scope.kind == .class || (X.env.scope.kind == .module && X.env.locals != X.env.globals)) = false := by rw [I.ok.kind]; rfl
  refine wpAny_nameGoes_keeps hn hns hcls fun h' v hn' sb => h _ ?_
  have low : ∀ {b : Addr} {o : Obj}, X.s₀.heap.get? b = some o → b ≠ X.env.locals := fun e z => absurd (Nat.lt_of_lt_of_le (Heap.lt_size e) I.ok.above) (by rw [z]; exact Nat.lt_irrefl _)
  have cel : ∀ c u, c ≠ X.env.locals → s.heap.IsCell c u → h'.IsCell c u := fun c u ne ⟨o, e, d⟩ => ⟨o, (sb.2 c ne).trans e, d⟩
  refine ⟨I.ok, I.os, I.bare, ⟨fun b o e n hb hx => (sb.2 b (low e)).trans (I.base.keep b o e n hb hx), fun b o e n hb hx => ?_, I.base.free, fun b o e hx => ?_, I.base.tups, I.base.frzs, I.base.tbls⟩, ⟨_, hn', fun i x v' e1 e2 e3 => ?_⟩, fun x c e => ?_, I.free, I.freeC, fun p hp => ?_, fun b o e => ?_, by rw [List.length_set]; exact I.len⟩
  · obtain ⟨sl, z⟩ := I.base.slot b o e n hb hx
    exact ⟨sl, (sb.2 b (low e)).trans z⟩
  · obtain ⟨o', z⟩ := I.base.there b o e hx
    exact ⟨o', (sb.2 b (low e)).trans z⟩
  · have hil : i ≠ l := fun z => by
      subst z
      rw [List.getElem?_set] at e2
      split at e2
      · split at e2
        · cases e2
        · cases e2
      · rename_i hh; exact hh rfl
    rw [List.getElem?_set_ne (Ne.symm hil)] at e2
    obtain ⟨u, r, lk⟩ := hlk i x v' e1 e2 e3
    refine ⟨u, r, ?_⟩
    have hxn : x ≠ n := fun z => by
      subst z
      exact hil (nodup_ix hN e1 hl)
    rcases lk with ⟨k1, k2⟩ | ⟨k1, c, k2, k3⟩
    · exact .inl ⟨k1, by show (if x = n then v else m x) = some u; rw [if_neg hxn]; exact k2⟩
    · exact .inr ⟨k1, c, k2, cel _ _ (I.cne x c k2) k3⟩
  · obtain ⟨u, z⟩ := I.cell x c e
    exact ⟨u, cel _ _ (I.cne x c e) z⟩
  · obtain ⟨e1, e2, e3, e4, e5⟩ := I.pin p hp
    exact ⟨(sb.2 _ e3).trans e1, e2, e3, e4, e5⟩
  · refine (I.hok b o e).stay (fun c u hc q => (sb.2 c fun z => ?_).trans q) (fun _ q => q) fun _ _ q => q
    have hf := I.free
    rcases hc with y | y
    · rw [← z, y, e] at hf; cases hf
    · rw [← z, y] at hf; cases hf
theorem inv_track {P0 : Addr → Prop} {pins : List (Addr × Obj)} {σ : L2.St} {H : Hp} {s : Shared} {a C : Addr} (hc : ∀ b o, X.s₀.heap.get? b = some o → b ∉ X.ex → P0 b) (hpn : ∀ p ∈ X.pn ++ pins, P0 p.1) (I : Inv X pins σ H s) (f : FlyT P0 H s.heap a C) : Inv X pins σ (upd H a (ExH a C)) s := by
  obtain ⟨f1, f2, T, u, t1, t2, oe, vs, oT, ts, e1, e2, e3, e4, e5, e6, e7, e8⟩ := f
  have nl : X.env.locals ≠ a := fun z => by
    obtain ⟨m, ⟨o, es, ep, ho, hd, _⟩, _⟩ := I.loc
    rw [z, e1] at ho; cases ho
    rw [e3.1] at hd; cases hd
  have nc : ∀ x c, X.env.cells.lookup x = some c → c ≠ a := fun x c e z => by
    obtain ⟨v, o, ho, hd⟩ := I.cell x c e
    rw [z, e1] at ho; cases ho
    rw [e3.1] at hd; cases hd
  refine ⟨I.ok, I.os, I.bare, ⟨I.base.keep, I.base.slot, fun b o e n hx => ?_, I.base.there, fun b xs q => ?_, fun b o u q => ?_, fun b ps q => ?_⟩, I.loc, I.cell, by rw [upd_ne nl]; exact I.free, fun x c e => by rw [upd_ne (nc x c e)]; exact I.freeC x c e, fun p hp => ?_, fun b o e => ?_, I.len⟩
  · rw [upd_ne (fun z => f1 (by rw [← z]; exact hc b o e hx))]; exact I.base.free b o e n hx
  · have z := I.base.tups b xs q
    rw [upd_ne (ne_of_none z f2)]; exact z
  · have z := I.base.frzs b o u q
    rw [upd_ne (ne_of_none z f2)]; exact z
  · obtain ⟨more, z⟩ := I.base.tbls b ps q
    exact ⟨more, by rw [upd_ne (ne_of_none z f2)]; exact z⟩
  · obtain ⟨z1, z2, z3, z4, z5⟩ := I.pin p hp
    exact ⟨z1, by rw [upd_ne (fun z => f1 (by rw [← z]; exact hpn p hp))]; exact z2, z3, z4, z5⟩
  · by_cases hb : b = a
    · subst hb; rw [upd_same] at e; cases e; exact exh_ok e1 e2
    · rw [upd_ne hb] at e
      exact (I.hok b o e).stay (fun _ _ _ q => q) (fun c q => by rw [upd_ne (ne_of_none q f2)]; exact q) fun c xs q => by rw [upd_ne (ne_of_none q f2)]; exact q
end
end BF
set_option Elab.async false
set_option linter.all false
set_option maxRecDepth 100000
set_option maxHeartbeats 4000000
namespace BF
open PySem PySem.Spec L2 PyProof.Rows
noncomputable section
variable {X : Cx}
abbrev subIn (K : PySem.W.Frag) (C D : Addr) : Prop := PySem.W.mroIn K C (.ref D) = some true
def EXt (K : PySem.W.Frag) (Cn : Addr) (j l : Nat) (D : Ends) : L2.St → Addr → Hp → Prop := fun σ C H' => (PySem.W.excIn K C bmVE "ValueError.__new__" = true ∧ subIn K C Cn) ∧ ∀ a, H' a = none → D.nx ((σ.set j (some (.ref a))).set l none) (upd H' a (ExH a C))
abbrev Xp (X : Cx) (E : Value → Shared → Prop) (pl : List (Addr × Obj)) : Cx := { X with xe := E, pn := X.pn ++ pl }
theorem inv_p {E : Value → Shared → Prop} {pl : List (Addr × Obj)} {σ : L2.St} {H : Hp} {s : Shared} (I : Inv X pl σ H s) : Inv (Xp X E pl) [] σ H s :=
  ⟨⟨I.ok.mod, I.ok.kind, I.ok.glob, I.ok.blt, I.ok.above, I.ok.inj, I.ok.has, I.ok.cab, I.ok.hd, I.ok.frames, I.ok.stk, I.ok.exf, I.ok.bs, I.ok.bsz, I.ok.noex, I.ok.exfs, I.ok.funs, I.ok.frf⟩, I.os, I.bare, I.base, I.loc, I.cell, I.free, I.freeC, fun p hp => I.pin p (by simpa using hp), I.hok, I.len⟩
theorem inv_unp {E : Value → Shared → Prop} {pl pins : List (Addr × Obj)} {σ : L2.St} {H : Hp} {s : Shared} (I : Inv (Xp X E pl) pins σ H s) : Inv X pl σ H s :=
  ⟨⟨I.ok.mod, I.ok.kind, I.ok.glob, I.ok.blt, I.ok.above, I.ok.inj, I.ok.has, I.ok.cab, I.ok.hd, I.ok.frames, I.ok.stk, I.ok.exf, I.ok.bs, I.ok.bsz, I.ok.noex, I.ok.exfs, I.ok.funs, I.ok.frf⟩, I.os, I.bare, I.base, I.loc, I.cell, I.free, I.freeC, fun p hp => I.pin p (List.mem_append_left _ hp), I.hok, I.len⟩
theorem sub_mro {K : PySem.W.Frag} {h : Heap} {C D : Addr} {bm bs : List Value} {N : Addr} {nm qn : Str} {hdct : Bool} {sn : List Str} {sub : List Value} {ab : Bool} {col : Option Bool} {dd : Option Addr} {k0 k1 k2 k3 k5 : Option Value} {newId : String}
    (kin : K.In h) (hs : subIn K C D) (hC : h.get? C = some (excClassObj nm qn C N bs bm hdct sn sub ab col dd k0 k1 k2 k3 k5 newId)) : (Value.ref C :: bm).contains (.ref D) = true := by
  obtain ⟨cd, hcd, e⟩ := Option.bind_eq_some_iff.mp (show ((PySem.W.clsIn K C).bind fun cd => if cd.mro.isEmpty = true then none else some (cd.mro.contains (.ref D))) = some true from hs)
  unfold PySem.W.clsIn at hcd
  split at hcd
  · rename_i ho
    have := kin _ _ ho
    rw [hC] at this
    cases this
    cases hcd
    split at e
    · cases e
    · exact Option.some.inj e
  · cases hcd
theorem ps_try {x y n cn : Str} {i j l : Nat} {e : Expr} {te : (L2.St → Addr → Hp → Prop) → TE} {Cn : Addr} {px py pn p1 p2 np hp pos : Pos} (d : Dfc X) (hN : X.N.Nodup) (hi : X.N[i]? = some x) (hx : Loc X.env.scope x) (hj : X.N[j]? = some y) (hy : Loc X.env.scope y) (hl : X.N[l]? = some n) (hn : X.env.scope.names.lookup n = some .local) (hlj : l ≠ j)
    (hg : Gl X cn) (hm : X.mg cn = some (.ref Cn)) (hq : PySem.W.excIn X.K Cn bmVE "ValueError.__new__" = true)
    (he : ∀ E pl P0 EX, XR (Xp X E pl) P0 EX → Blw (Xp X E pl) P0 → PE (Xp X E pl) e (te EX))
    (hs : swapsWith e (some (.Name x px)) p1.line X.env = pure false := by rfl) (hs2 : swapsWith (.Name n pn) (some (.Name y py)) p2.line X.env = pure false := by rfl)
    (hfx : X.fn x = true ∨ X.env.scope.names.lookup x = some .local := by first | exact .inl rfl | exact .inr rfl | assumption) (hfy : X.fn y = true ∨ X.env.scope.names.lookup y = some .local := by first | exact .inl rfl | exact .inr rfl | assumption)
    (hdb : (cn == ("__debug__" : Str)) = false := by decide +kernel) (hdn : (n == ("__debug__" : Str)) = false := by decide +kernel) (hcn : (n == ("__classdict__" : Str)) = false := by decide +kernel) :
    PS X (.Try [.Assign [.Name x px] e p1] [.ExceptHandler (some (.Name cn np)) (some n) [.Assign [.Name y py] (.Name n pn) p2] hp] [] [] pos) (fun D σ H => te (EXt X.K Cn j l D) σ H fun v H1 => D.nx (σ.set i (some v)) H1) := by
  intro pins s σ H D I h
  refine wpAny_Try_except ?_
  generalize hE : (fun (e : Value) (s₁ : Shared) => wpAny (model X.prog X.w) X.A (noteFrame e X.env) (fun _ s₂ => wpAny (model X.prog X.w) X.A (setFlight e none) (fun _ s₃ => wpAny (model X.prog X.w) X.A (handleBy e X.env [.ExceptHandler (some (.Name cn np)) (some n) [.Assign [.Name y py] (.Name n pn) p2] hp]) (SP X pins D) X.xe s₃) X.xe s₂) X.xe s₁) = E'
  have hcP : ∀ b o, X.s₀.heap.get? b = some o → b ∉ X.ex → (In_ X.s₀.heap b ∨ ∃ p ∈ pins, p.1 = b) := fun b o e _ => .inl (in_of e)
  have hpP : ∀ p ∈ X.pn ++ pins, (In_ X.s₀.heap p.1 ∨ ∃ q ∈ pins, q.1 = p.1) := fun p hp => by
    rw [d.pn] at hp
    exact .inr ⟨p, by simpa using hp, rfl⟩
  have bl : Blw (Xp X E' pins) (fun b => In_ X.s₀.heap b ∨ ∃ p ∈ pins, p.1 = b) := fun pins' σ' H' s' I' b hb => by
    rcases hb with hb | ⟨p, hp, rfl⟩
    · obtain ⟨o, e⟩ := of_in hb
      exact I'.base.there b o e (by show b ∉ X.ex; rw [d.ex]; simp)
    · exact ⟨_, ((inv_unp I').pin p (List.mem_append_right _ hp)).1⟩
  have xr : XR (Xp X E' pins) (fun b => In_ X.s₀.heap b ∨ ∃ p ∈ pins, p.1 = b) (EXt X.K Cn j l D) := by
    intro pins' σ' H' s' a C I' fly ⟨⟨hqC, hsub⟩, ex⟩
    have I0 : Inv X pins σ' H' s' := inv_unp I'
    show E' (.ref a) s'
    rw [← hE]
    have hfr : X.A.frames = some (X.env :: X.outer) := by rw [← d.stk]; exact I.ok.frames
    have hst : s'.heap.FunFrames X.base (X.env :: X.outer) := by rw [← d.stk]; exact I0.stack
    refine note_strong hfr hst d.frm fly (fun b o e => objOk_there (I0.hok b o e)) (bl pins' σ' H' s' I') fun h1 n1 f1 => ?_
    refine flight_strong (s := { s' with heap := h1 }) f1 fun h2 n2 f2 => ?_
    have n12 := n1.trans (n2.mono fun _ z => absurd z (by simp))
    rw [← d.stk] at n12
    have I2 : Inv X pins σ' H' { s' with heap := h2 } := inv_nt hcP hpP I0 n12
    obtain ⟨oe, ea, ca⟩ := f2.at_
    obtain ⟨bm, N, nm, qn, bs, hdct, sn, sub, ab, col, dd, k0, k1, k2, k3, k5, mN, hC, hNs, hni, T⟩ := exc_obj I2.kIn hqC
    obtain ⟨bm', N', nm', qn', bs', hdct', sn', sub', ab', col', dd', k0', k1', k2', k3', k5', mN', hC', hNs', hni', T'⟩ := exc_obj I2.kIn hq
    refine wpAny_handleBy_cons (codeAny_handlers_test (ld_glob (X := Xh X a) (inv_h I2 a) hg hm ?_ hdb)) (by intro q; cases q)
    refine excM_own hC hC' ea ca (T'.hasType PySem.F.excBase_ValueError.hasBase) (sub_mro I2.kIn hsub hC) ?_
    refine codeAny_handlers_suite_as ?_
    refine flight_strong (s := { s' with heap := h2 }) f2 fun h3 n3 f3 => ?_
    have I3 : Inv X pins σ' H' { s' with heap := h3 } := inv_nt (s := { s' with heap := h2 }) hcP hpP I2 (n3.mono fun _ z => absurd z (by simp))
    have I4 := inv_track hcP hpP I3 f3
    have ha : H' a = none := f3.2.1
    have hlσ : l < σ'.length := by rw [I0.len]; exact (List.getElem?_eq_some_iff.mp hl).1
    refine store_ok (X := Xh X a) (i := l) (v := .ref a) (inv_h I4 a) hN hl (.inl hn) rfl (fun s5 I5 => ?_) (.inr hn)
    have I5' : Inv ((Xh X a).wish fun _ _ => False) pins (σ'.set l (some (.ref a))) (upd H' a (ExH a C)) s5 := I5.wish _
    have hset := pss_one (ps_set (X := (Xh X a).wish fun _ _ => False) (i := j) (pos := p2) (pos' := py) hN hj hy (pe_var (i := l) (pos := pn) hl (.inl hn) hdn hcn) hs2 hfy) pins s5 (σ'.set l (some (.ref a))) (upd H' a (ExH a C))
      { nx := fun σ6 H6 => σ6 = (σ'.set l (some (.ref a))).set j (some (.ref a)) ∧ H6 = upd H' a (ExH a C), rt := fun _ _ => False } I5' ⟨.ref a, List.getElem?_set_self hlσ, rfl, rfl⟩
    refine wpAny_mono hset (fun f s6 q6 => ?_) fun _ _ z => False.elim z
    cases f with
    | brk => obtain ⟨_, _, _, z⟩ := q6; exact False.elim z
    | cont => obtain ⟨_, _, _, z⟩ := q6; exact False.elim z
    | ret u => obtain ⟨_, _, _, _, _, z⟩ := q6; exact False.elim z
    | next =>
      obtain ⟨σ6, H6, I6, rfl, rfl⟩ := q6
      have I6' : Inv X pins ((σ'.set l (some (.ref a))).set j (some (.ref a))) (upd H' a (ExH a C)) s6 := inv_unh I2.ok I6.unwish
      refine inv_goes I6' hN hl hn fun s7 I7 => ?_
      have es : ((σ'.set l (some (V.ref a))).set j (some (.ref a))).set l none = (σ'.set j (some (.ref a))).set l none := by
        rw [List.set_comm _ _ hlj, List.set_set]
      rw [es] at I7
      exact ⟨_, _, I7, ex a ha⟩
  have hb := pss_one (ps_set (X := Xp X E' pins) (i := i) (pos := p1) (pos' := px) hN hi hx (he E' pins _ _ xr bl) hs hfx) [] s σ H D (inv_p I) h
  refine wpAny_mono hb (fun f s1 q => ?_) fun _ _ z => z
  cases f with
  | next =>
    obtain ⟨σ1, H1, I1, q1⟩ := q
    exact pss_nil pins s1 σ1 H1 D (inv_unp I1) q1
  | brk => obtain ⟨σ1, H1, I1, q1⟩ := q; exact ⟨σ1, H1, inv_unp I1, q1⟩
  | cont => obtain ⟨σ1, H1, I1, q1⟩ := q; exact ⟨σ1, H1, inv_unp I1, q1⟩
  | ret u => obtain ⟨v, σ1, H1, I1, r, q1⟩ := q; exact ⟨v, σ1, H1, inv_unp I1, r, q1⟩
end
end BF
set_option Elab.async false
set_option linter.all false
set_option maxRecDepth 100000
set_option maxHeartbeats 4000000
namespace BF
open PySem PySem.Spec L2 PyProof.Rows
noncomputable section
variable {X : Cx}
theorem Sim.gone {K : PySem.W.Frag} {B G0 G H : Hp} {δ : List Sl} {σ : L2.St} (S : Sim K B G0 G δ σ H) (l : Nat) : Sim K B G0 G (δ.set l .un) (σ.set l none) H := by
  have own : ∀ (j : Nat) (t : Sl), (δ.set l .un)[j]? = some t → t = .un ∨ (j ≠ l ∧ δ[j]? = some t ∧ (σ.set l none)[j]? = σ[j]?) := fun j t h => by
    by_cases hj : j = l
    · subst hj
      have hlt : j < δ.length := by
        have := (List.getElem?_eq_some_iff.mp h).1
        simpa using this
      rw [List.getElem?_set_self hlt] at h
      exact .inl (Option.some.inj h).symm
    · rw [List.getElem?_set_ne (Ne.symm hj)] at h
      exact .inr ⟨hj, h, List.getElem?_set_ne (Ne.symm hj)⟩
  refine ⟨by rw [List.length_set, List.length_set, S.len], S.bh, S.g0, S.gh, S.gb, fun j t h => ?_, fun a b ds es p hab ha hb ea eb => ?_⟩
  · rcases own j t h with rfl | ⟨_, h1, e⟩
    · trivial
    · rw [e]; exact S.slot j t h1
  · rcases own a _ ha with z | ⟨_, h1, e1⟩
    · cases z
    · rcases own b _ hb with z | ⟨_, h2, e2⟩
      · cases z
      · rw [e1] at ea
        rw [e2] at eb
        exact S.disj a b ds es p hab h1 h2 ea eb
def gTry (i j l : Nat) (cs : List Str) (f : EFX) : SF := fun δ => (f δ).bind fun o => match o with
  | .inl r => r.sl.map fun s => .nx (δ.set i s)
  | .inr c => if cs.contains c then some (.nx ((δ.set j (.xc c)).set l .un)) else none
theorem psd_try {x y n cn : Str} {i j l : Nat} {e : Expr} {f : EFX} {cs : List Str} {Cn : Addr} {px py pn p1 p2 np hp pos : Pos} (d : Dfc X) (hN : X.N.Nodup) (hi : X.N[i]? = some x) (hx : Loc X.env.scope x) (hj : X.N[j]? = some y) (hy : Loc X.env.scope y) (hl : X.N[l]? = some n) (hn : X.env.scope.names.lookup n = some .local) (hlj : l ≠ j)
    (hg : Gl X cn) (hm : X.mg cn = some (.ref Cn)) (hq : PySem.W.excIn X.K Cn bmVE "ValueError.__new__" = true)
    (hcs : ∀ c ∈ cs, ∃ C, X.mg c = some (.ref C) ∧ clsK X.K c = some C ∧ PySem.W.excIn X.K C bmVE "ValueError.__new__" = true ∧ subIn X.K C Cn)
    (he : ∀ E pl P0 EX, XR (Xp X E pl) P0 EX → Blw (Xp X E pl) P0 → PDX (Xp X E pl) EX e f)
    (hs : swapsWith e (some (.Name x px)) p1.line X.env = pure false := by rfl) (hs2 : swapsWith (.Name n pn) (some (.Name y py)) p2.line X.env = pure false := by rfl)
    (hfx : X.fn x = true ∨ X.env.scope.names.lookup x = some .local := by first | exact .inl rfl | exact .inr rfl | assumption) (hfy : X.fn y = true ∨ X.env.scope.names.lookup y = some .local := by first | exact .inl rfl | exact .inr rfl | assumption)
    (hdb : (cn == ("__debug__" : Str)) = false := by decide +kernel) (hdn : (n == ("__debug__" : Str)) = false := by decide +kernel) (hcn : (n == ("__classdict__" : Str)) = false := by decide +kernel) :
    PSD X (.Try [.Assign [.Name x px] e p1] [.ExceptHandler (some (.Name cn np)) (some n) [.Assign [.Name y py] (.Name n pn) p2] hp] [] [] pos) (gTry i j l cs f) := by
  refine PS.imp (ps_try (te := fun EX => tDX X EX f) d hN hi hx hj hy hl hn hlj hg hm hq he hs hs2 hfx hfy hdb hdn hcn) fun D σ H h => ?_
  obtain ⟨B, G0, G, δ, fl, S, ee, k⟩ := h
  obtain ⟨o, e1, ee⟩ := Option.bind_eq_some_iff.mp ee
  cases o with
  | inl r =>
    obtain ⟨s, es, ee⟩ := Option.map_eq_some_iff.mp (show (r.sl.map fun s => Fl.nx (δ.set i s)) = some fl from ee)
    subst ee
    have t := set_run (f := fo f) (i := i) (D := D) (σ := σ) (H := H) ⟨B, G0, G, δ, .nx (δ.set i s), S, by
      unfold gSet
      rw [fo_of e1]
      show (r.sl.map fun s => Fl.nx (δ.set i s)) = _
      rw [es]; rfl, k⟩
    exact tDX_ok t
  | inr c =>
    have ee' : (if cs.contains c then some (Fl.nx ((δ.set j (.xc c)).set l .un)) else none) = some fl := ee
    by_cases hc : cs.contains c = true
    case neg => rw [if_neg hc] at ee'; cases ee'
    rw [if_pos hc] at ee'
    cases ee'
    refine tDX_ex S e1 fun C H' hmc hsm => ?_
    obtain ⟨C0, q1, q2, q3, q4⟩ := hcs c (by simpa using hc)
    rw [hmc] at q1
    cases q1
    refine ⟨⟨q3, q4⟩, fun a ha => ?_⟩
    have S' : Sim X.K B G0 (upd G a (ExH a C)) δ σ (upd H' a (ExH a C)) := (S.grow hsm).newSh ha
    have S2 := S'.set j (s := .xc c) (v := .ref a) ⟨a, rfl, C, q2, upd_same⟩ (fun _ _ z => by cases z)
    exact k _ _ _ (S2.gone l) (Same.upd_new ((S.grow hsm).g_free ha))
end
end BF
set_option Elab.async false
set_option linter.all false
set_option maxRecDepth 100000
set_option maxHeartbeats 4000000
namespace BF
open PySem PySem.Spec L2 PyProof.Rows
section
variable {prog : Program} {w : World} {A : Around} {E : Value → Shared → Prop} {h : Heap} {g : Array GenState} {d : Drawn} {t : Nat} {os : OsState} {a : Addr} {o : Obj} {K : PySem.W.Frag} {D : Addr}
structure XcC (K : PySem.W.Frag) (D : Addr) : Prop where
  ga : PySem.W.findIn K (.ref D) "__getattribute__" = some (some (.builtin "BaseException.__getattribute__"))
  gt : PySem.W.findIn K (.ref D) "__getattr__" = some none
  cl : PySem.W.findIn K (.ref D) "__class__" = some (some (.builtin "object.__class__"))
  ob : PySem.W.mroIn K D (.type "object") = some true
  be : PySem.W.mroIn K D (.type "BaseException") = some true
theorem xc_get {R : Result → Shared → Prop} (X : K.In h) (F : XcC K D) (hx : h.get? a = some o) (hc : o.cls = .ref D) (hq : R (.ok (.ret (.ref D))) ⟨h, g, d, t, os⟩) :
    codeAny (model prog w) A (.call (.builtin "getset_descriptor.__get__") ⟨[.builtin "object.__class__", .ref a, .ref D], []⟩) R ⟨h, g, d, t, os⟩ := by
  have hT5 : (⟨h, g, d, t, os⟩ : Shared).TypeIs (.builtin "object.__class__") "getset_descriptor" := PySem.F.typeOf_object_class
  have L1 := PySem.W.looks_mroIn (M := model prog w) X F.ob
  refine codeAny_call_builtin PySem.F.slot_gs_get.plain PySem.F.entry_gs_get (PySem.F.slot_gs_get.check _ _ _ _ _ _ _ _ hT5 (PySem.F.args_gs_get _ _ _) ?_)
  have ow := PySem.F.owner_object_class
  repeat (any_goals (first | assumption | (with_reducible refine wpAny_loadPart_at hx ?_; rw [hc]) | (rw [ow]; with_reducible refine L1.at ?_) | with_reducible refine L1.at ?_ | wp_step))
  refine ⟨Code.quiet_builtin _ (by decide +kernel), codeAny_builtin PySem.F.entry_object_class ?_⟩
  repeat (any_goals (first | assumption | (with_reducible refine wpAny_loadPart_at hx ?_; rw [hc]) | wp_step))
theorem xc_check {M : Model} {nameV : Value} {Q : Unit → Shared → Prop} (X : K.In h) (F : XcC K D) (hx : h.get? a = some o) (hc : o.cls = .ref D) (hq : Q () ⟨h, g, d, t, os⟩) : wpAny M A (checkBuiltinCall "BaseException.__getattribute__" ⟨[.ref a, nameV], []⟩) Q E ⟨h, g, d, t, os⟩ := by
  have hk : builtinKind "BaseException.__getattribute__" = some .slot := by decide +kernel
  have hsplit : splitId "BaseException.__getattribute__" = some ("BaseException", "__getattribute__") := by decide +kernel
  have L1 := PySem.W.looks_mroIn (M := M) X F.be
  have ha := PySem.F.args_bexc_ga (.ref a) nameV
  simp only [checkBuiltinCall, hk, hsplit]
  refine wpAny_bind ?_
  · unfold isInstance
    repeat (first | (with_reducible refine wpAny_loadPart_at hx ?_; rw [hc]) | with_reducible refine L1.at ?_ | wp_step)
    exact hq
theorem xc_entry {tk : Tok} {Q : Fin → Shared → Prop} (X : K.In h) (F : XcC K D) (hx : h.get? a = some o) (hc : o.cls = .ref D) (hq : Q (.done (.ret (.ref D))) ⟨h, g, d, t, os⟩) :
    wpAny (model prog w) A (Builtin.«object.__getattribute__» ⟨[.ref a, .str "__class__" tk], []⟩) Q E ⟨h, g, d, t, os⟩ := by
  have hT5 : (⟨h, g, d, t, os⟩ : Shared).TypeIs (.builtin "object.__class__") "getset_descriptor" := PySem.F.typeOf_object_class
  have f5 := PySem.F.typeOf_object_class
  have f6 := PySem.F.slot_gs_get.lookup
  have f7 := PySem.F.slot_gs_set.lookup
  have L1 := PySem.W.looks_findIn (M := model prog w) X F.cl
  repeat (any_goals (first | assumption | (with_reducible refine wpAny_loadPart_at hx ?_; rw [hc]) | with_reducible refine L1.at ?_ | wp_step))
  refine xc_get X F hx hc ?_
  repeat (any_goals (first | assumption | wp_step))
theorem xc_call {tk : Tok} {R : Result → Shared → Prop} (X : K.In h) (F : XcC K D) (hx : h.get? a = some o) (hc : o.cls = .ref D) (hq : R (.ok (.ret (.ref D))) ⟨h, g, d, t, os⟩) :
    codeAny (model prog w) A (.call (.builtin "BaseException.__getattribute__") ⟨[.ref a, .str "__class__" tk], []⟩) R ⟨h, g, d, t, os⟩ :=
  codeAny_call_builtin PySem.F.excAttr_ValueError.ga.plain PySem.F.entry_bexc_ga (xc_check X F hx hc (xc_entry X F hx hc hq))
theorem xc_by {tk : Tok} {Q : Value → Shared → Prop} (X : K.In h) (F : XcC K D) (hx : h.get? a = some o) (hc : o.cls = .ref D) (hq : Q (.ref D) ⟨h, g, d, t, os⟩) : wpAny (model prog w) A (getAttrBy (.ref a) (.str "__class__" tk) false) Q E ⟨h, g, d, t, os⟩ := by
  have f3 := PySem.F.excAttr_ValueError.ga.bind (.ref a)
  have hx2 : (Value.builtin "BaseException.__getattribute__" == Value.builtin "object.__getattribute__") = false := by decide +kernel
  have hx1 : (onTheHeap (Value.ref D) && Value.builtin "BaseException.__getattribute__" == Value.builtin "object.__getattribute__") = false := by rw [hx2]; rfl
  have L1 := PySem.W.looks_findIn (M := model prog w) X F.ga
  have L2 := PySem.W.looks_findIn (M := model prog w) X F.gt
  repeat (any_goals (first | assumption | (with_reducible refine wpAny_loadPart_at hx ?_; rw [hc]) | with_reducible refine L1.at ?_ | with_reducible refine L2.at ?_ | wp_step))
  refine xc_call X F hx hc ?_
  repeat (any_goals (first | assumption | wp_step))
theorem xc_attr {Q : Option Value → Shared → Prop} (X : K.In h) (F : XcC K D) (hx : h.get? a = some o) (hc : o.cls = .ref D) (hq : Q (some (.ref D)) ⟨h, g, d, t + 1, os⟩) : wpAny (model prog w) A (getAttr? (.ref a) "__class__") Q E ⟨h, g, d, t, os⟩ := by
  unfold getAttr? getAttrBy?
  repeat (any_goals (first | assumption | with_reducible apply xc_by X F hx hc | wp_step))
end
end BF
set_option Elab.async false
set_option linter.all false
set_option maxRecDepth 100000
set_option maxHeartbeats 4000000
namespace BF
open PySem PySem.Spec L2 PyProof.Rows
noncomputable section
theorem kitx_exc {K : PySem.W.Frag} {a D : Addr} (F : XcC K D) : PySem.W.KitX K (.ref a) (.ref D) (fun h => ∃ o, h.get? a = some o ∧ o.cls = .ref D) := by
  obtain ⟨cd, hcd, _⟩ := Option.bind_eq_some_iff.mp (show ((PySem.W.clsIn K D).bind fun cd => if cd.mro.isEmpty = true then none else some (cd.mro.contains (.type "object"))) = some true from F.ob)
  unfold PySem.W.clsIn at hcd
  split at hcd
  case h_2 => cases hcd
  rename_i c' d' cd' sl' ho
  refine ⟨fun M h X p => ?_, fun M h X p => ?_, fun h tp dd its n sl X htp => ?_, fun {prog w A E Q s} X p q => ?_⟩
  · obtain ⟨o, h1, h2⟩ := p
    exact h2 ▸ (PySem.W.Looks.ld h1).andThen .now
  · intro A' Q' E' s' k q
    unfold isType loadHead
    exact wpAny_bind (wpAny_loadPart (k _ _ (X _ _ ho)) (wpAny_pure q))
  · refine Bool.eq_false_iff.mpr fun q => ?_
    have e : D = tp := Value.ref.inj (beq_iff_eq.mp q)
    subst e
    have z := (X _ _ ho).symm.trans htp
    cases z
  · obtain ⟨o, h1, h2⟩ := p
    obtain ⟨h, g, d, t, os⟩ := s
    exact xc_attr X F h1 h2 q
variable {X : Cx}
def rIsx (K : PySem.W.Frag) (b : Bool) : List V → Hp → VK → Prop := fun xs H Q => ∃ x y dv, xs = [x, y] ∧ RelV y dv ∧ (∀ u, RelV y u → u = dv) ∧ ((x = .non ∧ PySem.W.kitOne K (.type "NoneType") dv = some b) ∨ (∃ a C, x = .ref a ∧ H a = some (ExH a C) ∧ XcC K C ∧ PySem.W.kitOne K (.ref C) dv = some b)) ∧ Q (.bl b) H
theorem call_isx {b : Bool} : CallR X (.builtin "isinstance") (rIsx X.K b) := by
  intro pins s σ H xs us Q I r h
  obtain ⟨x, y, dv, rfl, _, hu, hx, q⟩ := h
  obtain ⟨u, w', rfl, r1, r2⟩ := vals2 r
  obtain rfl := hu w' r2
  have fin : ∀ tk, EP X pins σ Q (.bool b) { s with toks := tk } := fun tk => ⟨.bl _, H, I.tok _, rfl, q⟩
  rcases hx with ⟨rfl, e⟩ | ⟨a, C, rfl, ha, F, e⟩
  · cases (show u = Value.none from r1)
    exact PySem.W.kia_one PySem.W.kitx_none I.kIn True.intro e (fun z => nomatch z) fin
  · cases (show u = Value.ref a from r1)
    obtain ⟨⟨oe, e1, e2⟩, _⟩ := (show ObjOk X.prog X.w H s.heap a (ExH a C) from I.hok a _ ha)
    exact PySem.W.kia_one (kitx_exc F) I.kIn ⟨oe, e1, e2⟩ e (fun z => nomatch z) fin
theorem pe_cls {x : Str} {C : Addr} {pos : Pos} (hg : Gl X x) (hm : X.mg x = some (.ref C)) (hd : (x == ("__debug__" : Str)) = false := by decide +kernel) : PE X (.Name x pos) (tC (.ref C)) :=
  fun _ _ _ H _ I h => ld_glob I hg hm ⟨.ref C, H, I, rfl, h⟩ hd
def fXc (i : Nat) (kn : List Str) (nn : Bool) (t : Str → Bool) : EF := fun δ => match δ[i]? with
  | some (.sh .non) => some (.sh (.bl nn))
  | some (.xc c) => if kn.contains c then some (.sh (.bl (t c))) else none
  | _ => none
theorem fXc_some {i : Nat} {kn : List Str} {nn : Bool} {t : Str → Bool} {δ : List Sl} {r : Rs} (e : fXc i kn nn t δ = some r) : (δ[i]? = some (.sh .non) ∧ r = .sh (.bl nn)) ∨ ∃ c, c ∈ kn ∧ δ[i]? = some (.xc c) ∧ r = .sh (.bl (t c)) := by
  unfold fXc at e
  split at e
  · rename_i h; cases e; exact .inl ⟨h, rfl⟩
  · rename_i c h
    split at e
    · rename_i hc; cases e; exact .inr ⟨c, by simpa using hc, h, rfl⟩
    · cases e
  · cases e
theorem pd_isx (i : Nat) {x : Str} {ed : Expr} {y : V} {dv : Value} {kn : List Str} {t : Str → Bool} {p px pos : Pos} (hv : PE X (.Name x px) (tVar i)) (hd : PE X ed (tC y)) (ry : RelV y dv) (hu : ∀ u, RelV y u → u = dv) (hnn : PySem.W.kitOne X.K (.type "NoneType") dv = some false)
    (hkn : ∀ c ∈ kn, ∃ C, clsK X.K c = some C ∧ XcC X.K C ∧ PySem.W.kitOne X.K (.ref C) dv = some (t c)) (hg : Gl X "isinstance") (hm : X.mg "isinstance" = none) (hb : bootBuiltins "isinstance" = some (.builtin "isinstance"))
    (he : starEach [.Name x px, ed] X.env = (false, eval (.Name x px) X.env) :: starEach [ed] X.env := by rfl) (he2 : starEach [ed] X.env = (false, eval ed X.env) :: starEach [] X.env := by rfl) (hpl : (backTo pos (starEach [ed] X.env)).any (·.1) = false := by rfl) : PD X (.Call (.Name "isinstance" p) [.Name x px, ed] [] pos) (fXc i kn false t) := by
  intro pins s σ H Q I h
  obtain ⟨B, G0, G, δ, r, S, e, k⟩ := h
  have go : ∀ b : Bool, r = .sh (.bl b) → Q (.bl b) H := fun b hb => by
    subst hb
    exact k (.bl b) G H S Gr.refl (show Rep X.K G (.bl b) (.bl b) from rep_scal (d := .bl b) rfl)
  rcases fXc_some e with ⟨hs, hr⟩ | ⟨c, hc, hs, hr⟩
  · obtain ⟨v, e1, rv⟩ := S.slot i _ hs
    unfold Rep at rv
    subst rv
    refine pe_callB (r := rIsx X.K false) call_isx hg hm hb (pa_cons hv (pa_cons hd pa_nil he2) he) (by decide +kernel) (by decide +kernel) he hpl pins s σ H Q I ?_
    exact ⟨.non, e1, .non, y, dv, rfl, ry, hu, .inl ⟨rfl, hnn⟩, go _ hr⟩
  · obtain ⟨a, e1, C, ec, ga⟩ := S.slot i _ hs
    obtain ⟨C', q1, q2, q3⟩ := hkn c hc
    rw [ec] at q1
    cases q1
    refine pe_callB (r := rIsx X.K (t c)) call_isx hg hm hb (pa_cons hv (pa_cons hd pa_nil he2) he) (by decide +kernel) (by decide +kernel) he hpl pins s σ H Q I ?_
    exact ⟨.ref a, e1, .ref a, y, dv, rfl, ry, hu, .inr ⟨a, C, rfl, S.gh _ _ ga, q2, q3⟩, go _ hr⟩
def rIsxT (K : PySem.W.Frag) (b : Bool) (ds : List Value) : List V → Hp → VK → Prop := fun xs H Q => ∃ x tp ys, xs = [x, .ref tp] ∧ H tp = some (.tup ys) ∧ (∀ its, Vals ys its → its = ds) ∧ ((x = .non ∧ PySem.W.kitAny K (.type "NoneType") ds = some b) ∨ (∃ a C, x = .ref a ∧ H a = some (ExH a C) ∧ XcC K C ∧ PySem.W.kitAny K (.ref C) ds = some b)) ∧ Q (.bl b) H
theorem call_isxT {b : Bool} {ds : List Value} : CallR X (.builtin "isinstance") (rIsxT X.K b ds) := by
  intro pins s σ H xs us Q I r h
  obtain ⟨x, tp, ys, rfl, ht, hu, hx, q⟩ := h
  obtain ⟨u, w', rfl, r1, r2⟩ := vals2 r
  cases (show w' = Value.ref tp from r2)
  obtain ⟨_, its, rv, o, ho, hc, n, hd⟩ := (show ObjOk X.prog X.w H s.heap tp (.tup ys) from I.hok tp _ ht)
  obtain rfl := hu its rv
  obtain ⟨c0, d0, dt, sl⟩ := o
  have hc' : c0 = Value.type "tuple" := hc
  have hd' : dt = .seq its.toArray n := hd
  subst hc' hd'
  have fin : ∀ tk, EP X pins σ Q (.bool b) { s with toks := tk } := fun tk => ⟨.bl _, H, I.tok _, rfl, q⟩
  rcases hx with ⟨rfl, e⟩ | ⟨a, C, rfl, ha, F, e⟩
  · cases (show u = Value.none from r1)
    exact PySem.W.kia_tup PySem.W.kitx_none I.kIn True.intro ho e (fun z => nomatch z) fin
  · cases (show u = Value.ref a from r1)
    obtain ⟨⟨oe, e1, e2⟩, _⟩ := (show ObjOk X.prog X.w H s.heap a (ExH a C) from I.hok a _ ha)
    exact PySem.W.kia_tup (kitx_exc F) I.kIn ⟨oe, e1, e2⟩ ho e (fun z => nomatch z) fin
inductive PCs (X : Cx) : List Expr → List Addr → Prop
  | nil : PCs X [] []
  | cons {e : Expr} {es : List Expr} {C : Addr} {Cs : List Addr} : PE X e (tC (.ref C)) → starEach (e :: es) X.env = (false, eval e X.env) :: starEach es X.env → PCs X es Cs → PCs X (e :: es) (C :: Cs)
def tCs : List Addr → TA
  | [] => tNil
  | C :: Cs => tCons (tC (.ref C)) (tCs Cs)
theorem pa_cs {es : List Expr} {Cs : List Addr} (h : PCs X es Cs) : PA X es (tCs Cs) := by
  induction h with
  | nil => exact pa_nil
  | cons h1 h2 _ ih => exact pa_cons h1 ih h2
theorem tCs_run {Cs : List Addr} {σ : L2.St} {H : Hp} {Q : List V → Hp → Prop} (q : Q (Cs.map .ref) H) : tCs Cs σ H Q := by
  induction Cs generalizing Q with
  | nil => exact q
  | cons C Cs ih => exact ih (Q := fun xs H2 => Q (.ref C :: xs) H2) q
theorem vals_refs : ∀ {Cs : List Addr} {its : List Value}, Vals (Cs.map V.ref) its → its = Cs.map Value.ref
  | [], its, h => by cases h; rfl
  | C :: Cs, its, h => by
    cases h with
    | cons r t => rw [show _ = Value.ref C from r, vals_refs t]; rfl
theorem pd_isxT (i : Nat) {x : Str} {es : List Expr} {Cs : List Addr} {x1} {kn : List Str} {t : Str → Bool} {p px pt pos : Pos} (hv : PE X (.Name x px) (tVar i)) (hd : PCs X es Cs) (hz : Cs.length ≤ 1000) (hnn : PySem.W.kitAny X.K (.type "NoneType") (Cs.map .ref) = some false)
    (hkn : ∀ c ∈ kn, ∃ C, clsK X.K c = some C ∧ XcC X.K C ∧ PySem.W.kitAny X.K (.ref C) (Cs.map .ref) = some (t c)) (hg : Gl X "isinstance") (hm : X.mg "isinstance" = none) (hb : bootBuiltins "isinstance" = some (.builtin "isinstance"))
    (he : starEach [.Name x px, .Tuple es x1 pt] X.env = (false, eval (.Name x px) X.env) :: starEach [.Tuple es x1 pt] X.env := by rfl) (he2 : starEach [.Tuple es x1 pt] X.env = (false, eval (.Tuple es x1 pt) X.env) :: starEach [] X.env := by rfl) (hpl : (backTo pos (starEach [.Tuple es x1 pt] X.env)).any (·.1) = false := by rfl) : PD X (.Call (.Name "isinstance" p) [.Name x px, .Tuple es x1 pt] [] pos) (fXc i kn false t) := by
  intro pins s σ H Q I h
  obtain ⟨B, G0, G, δ, r, S, e, k⟩ := h
  have go : ∀ (b : Bool) (tp : Addr), H tp = none → r = .sh (.bl b) → Q (.bl b) (upd H tp (.tup (Cs.map .ref))) := fun b tp ht hb => by
    subst hb
    exact k (.bl b) G _ (S.grow (Same.upd_new ht)) ⟨Same.refl G, Same.upd_new ht, fun _ _ => rfl⟩ (show Rep X.K G (.bl b) (.bl b) from rep_scal (d := .bl b) rfl)
  have hz' : (Cs.map V.ref).length ≤ sizeLine := by rw [List.length_map]; exact Nat.le_trans hz (by decide)
  rcases fXc_some e with ⟨hs, hr⟩ | ⟨c, hc, hs, hr⟩
  · obtain ⟨v, e1, rv⟩ := S.slot i _ hs
    unfold Rep at rv
    subst rv
    refine pe_callB (r := rIsxT X.K false (Cs.map .ref)) call_isxT hg hm hb (pa_cons hv (pa_cons (pe_tup (pa_cs hd)) pa_nil he2) he) (by decide +kernel) (by decide +kernel) he hpl pins s σ H Q I ?_
    exact ⟨.non, e1, tCs_run ⟨hz', fun tp ht => ⟨.non, tp, Cs.map .ref, rfl, upd_same, fun its h => vals_refs h, .inl ⟨rfl, hnn⟩, go _ tp ht hr⟩⟩⟩
  · obtain ⟨a, e1, C, ec, ga⟩ := S.slot i _ hs
    obtain ⟨C', q1, q2, q3⟩ := hkn c hc
    rw [ec] at q1
    cases q1
    refine pe_callB (r := rIsxT X.K (t c) (Cs.map .ref)) call_isxT hg hm hb (pa_cons hv (pa_cons (pe_tup (pa_cs hd)) pa_nil he2) he) (by decide +kernel) (by decide +kernel) he hpl pins s σ H Q I ?_
    exact ⟨.ref a, e1, tCs_run ⟨hz', fun tp ht => ⟨.ref a, tp, Cs.map .ref, rfl, upd_same, fun its h => vals_refs h, .inr ⟨a, C, rfl, by rw [upd_ne (ne_of_none (S.gh _ _ ga) ht)]; exact S.gh _ _ ga, q2, q3⟩, go _ tp ht hr⟩⟩⟩
theorem isx_run {i : Nat} {kn : List Str} {neg : Bool} {σ : L2.St} {H : Hp} {Q : VK} (h : tD X.K (fXc i kn (!neg) (fun _ => neg)) σ H Q) : tVar i σ H fun x H1 => Q (.bl (if neg then !decide (x = .non) else decide (x = .non))) H1 := by
  obtain ⟨B, G0, G, δ, r, S, e, k⟩ := h
  have go : ∀ b : Bool, r = .sh (.bl b) → Q (.bl b) H := fun b hb => by
    subst hb
    exact k (.bl b) G H S Gr.refl (show Rep X.K G (.bl b) (.bl b) from rep_scal (d := .bl b) rfl)
  rcases fXc_some e with ⟨hs, hr⟩ | ⟨c, hc, hs, hr⟩
  · obtain ⟨v, e1, rv⟩ := S.slot i _ hs
    unfold Rep at rv
    subst rv
    refine ⟨.non, e1, ?_⟩
    cases neg with
    | true => exact go _ hr
    | false => exact go _ hr
  · obtain ⟨a, e1, C, ec, ga⟩ := S.slot i _ hs
    refine ⟨.ref a, e1, ?_⟩
    cases neg with
    | true => exact go _ hr
    | false => exact go _ hr
theorem pd_isNx (i : Nat) {x : Str} {kn : List Str} {px pos p2 : Pos} {j} (hv : PE X (.Name x px) (tVar i)) : PD X (.Compare (.Name x px) [.Is] [.Constant .none j p2] pos) (fXc i kn true fun _ => false) :=
  PE.imp (pe_cmpR op_isN hv pe_non (nomark _)) fun σ H Q h => by
    obtain ⟨v, e, q⟩ := isx_run (neg := false) h
    exact ⟨v, e, rfl, q⟩
end
end BF
set_option Elab.async false
set_option linter.all false
set_option maxRecDepth 100000
set_option maxHeartbeats 4000000
namespace BF
open PySem PySem.Spec L2 PyProof.Rows
noncomputable section
variable {X : Cx} {EX : L2.St → Addr → Hp → Prop}
def fzX (f : EFX) : EFX := fun δ => (f δ).map fun o => match o with
  | .inl r => .inl r.fz
  | .inr c => .inr c
theorem tDX_fz {f : EFX} {σ : L2.St} {H : Hp} {Q : VK} (h : tDX X EX (fzX f) σ H Q) : tDX X EX f σ H Q := by
  obtain ⟨B, G0, G, δ, o, S, e, k⟩ := h
  obtain ⟨o1, e1, e⟩ := Option.map_eq_some_iff.mp e
  cases o1 with
  | inr c => cases e; exact tDX_ex S e1 k
  | inl r =>
    cases e
    exact tDX_ok (tD_fz ⟨B, G0, G, δ, r.fz, S, fz_some (fo_of e1), k⟩)
theorem PDX.fz {e : Expr} {f : EFX} (h : PDX X EX e f) : PDX X EX e (fzX f) := PE.imp h fun _ _ _ q => tDX_fz q
theorem psx_setCompF {EX : Addr → Hp → Prop} {elt iter tg : Expr} {scope : Scope} {pos spos pos' : Pos} {src : IF} {t : Tg} {f : EFX} {N' : List Str} {ix : List (Option Nat)} {i : Nat} {y : Str} (d : Dfc X) (xr : XR X (In_ X.s₀.heap) (fun _ => EX)) (ck : CompOk X.N X.env.scope scope N' ix) (inj : Inj ix) (own : Own t ix) (hi : PID X tg iter src)
    (hg : ∀ C s H fp E, PGD (Xc X scope C s H fp N' E) tg t) (he : ∀ C s H fp E P0, XR (Xc X scope C s H fp N' E) P0 (fun _ => EX) → Blw (Xc X scope C s H fp N' E) P0 → PDX (Xc X scope C s H fp N' E) (fun _ => EX) elt f) (hN : X.N.Nodup) (hiy : X.N[i]? = some y) (hy : Loc X.env.scope y)
    (hsw : swapsWith (.ListComp elt [⟨tg, iter, [], 0⟩] scope pos) (some (.Name y pos')) spos.line X.env = pure true := by rfl) (hs : ∀ x, foldedSetIterable iter X.env x = pure x := by intro _; rfl) (hf : X.fn y = true ∨ X.env.scope.names.lookup y = some .local := by first | exact .inl rfl | exact .inr rfl | assumption) :
    PSX X (fun _ => EX) (.Assign [.Name y pos'] (.ListComp elt [⟨tg, iter, [], 0⟩] scope pos) spos) (xSet i (fzX (xComp src t ix f))) := by
  refine PS.imp (ps_setCompX (g := tGD X.K t) (te := tDX X (fun _ => EX) f) d xr ck hi hg he hN hiy hy hsw hs hf) fun D σ H h => ?_
  exact compX_run inj own (tDX_fz (setX_run h))
theorem pssx_nil : PSsX X EX [] (xl gNil) := pssx_lift psd_nil
theorem dfc_nox (d : Dfc X) : Dfc X.nox := ⟨d.ex, d.pn, d.calm, d.stk, d.frm⟩
theorem passes_cxOf {CX : CXT} {P : Program} {w : World} {K : PySem.W.Frag} {mg : Str → Option Value} {base : Heap} {N : List Str} {qual : Str} {scope : Scope} {f : Addr} {cd : Value} {A : Around} {outer : List Env} {s : Shared} {H : Hp} {E : XK} :
    PassesOwn (model P w) (cxOf CX P w K mg base N qual scope f cd A outer s H E).A (cxOf CX P w K mg base N qual scope f cd A outer s H E).env (cxOf CX P w K mg base N qual scope f cd A outer s H E).xe :=
  fun _ _ h => wpAny_leaving_again (SameStack.refl _) h
end
end BF
set_option Elab.async false
set_option linter.all false
set_option maxRecDepth 100000
set_option maxHeartbeats 4000000
namespace BF
open PySem PySem.Spec L2 PyProof.Rows
noncomputable section
variable {X : Cx}
def findS (z y : Str) : Int := match Builtin.Str.occurrences z y 0 z.length 1 with | i :: _ => (i : Int) | [] => -1
def rFind : V → List V → Hp → VK → Prop := fun x xs H Q => ∃ z y, x = .str z ∧ xs = [.str y] ∧ Q (.int (findS z y)) H
theorem mt_find : MtR X "str.find" rFind := by
  intro pins s σ H x xs v us Q I rx rv h
  obtain ⟨z, y, rfl, rfl, q⟩ := h
  obtain ⟨t, rfl⟩ := rx
  obtain ⟨u, rfl, ru⟩ := vals1 rv
  obtain ⟨t', rfl⟩ := ru
  exact call_gives PySem.F.slot_str_find (typeIs_str _ _ _) PySem.F.entry_str_find (PySem.F.args_str_find_2 _ _) (gives_str_find z y t t') ⟨.int (findS z y), H, I.tok _, ⟨_, rfl⟩, q⟩
def oFind : Dm → List Dm → Option Dm
  | .str z, [.str y] => some (.int (findS z y))
  | _, _ => none
theorem ms_find {K : PySem.W.Frag} : MtS K rFind oFind := by
  intro x vs H a ds d Q ra rs e
  unfold oFind at e
  split at e
  · cases e
    obtain ⟨v, rfl, q⟩ := reps1 rs
    unfold Rep at ra q
    subst q
    exact ⟨⟨_, rfl⟩, rfl, fun k => ⟨_, _, ra, rfl, k⟩⟩
  · cases e
theorem oFind_str : ∀ a ds d, oFind a ds = some d → ∃ z, a = .str z := by
  intro a ds d e
  unfold oFind at e
  split at e
  · exact ⟨_, rfl⟩
  · cases e
theorem clsK_of {K : PySem.W.Frag} {c : Str} {C : Addr} (e : PySem.W.nsIn K mainGlobals c = some (some (.ref C))) : clsK K c = some C := by unfold clsK; rw [e]
theorem bo_ValueError : bootBuiltins "ValueError" = some (.type "ValueError") := by decide +kernel
end
end BF
set_option Elab.async false
set_option linter.all false
set_option maxRecDepth 100000
set_option maxHeartbeats 4000000
namespace BF
open PySem PySem.Spec PyProof.Rows L2
noncomputable section
variable {X : Cx}
def rMin (K : PySem.W.Frag) : List V → Hp → VK → Prop := fun xs H Q => ∃ (p : Addr) (ns : List Int) (M : Int), xs = [.ref p] ∧ SqL K H p (ns.map V.int) ∧ M ∈ ns ∧ (∀ a ∈ ns, M ≤ a) ∧ Q (.int M) H
theorem call_minL (hc : X.calm = true) : CallR X (.builtin "min") (rMin X.K) := by
  intro pins s σ H xs us Q I r h
  obtain ⟨p, ns, M, rfl, hq, hM, hle, q⟩ := h
  obtain ⟨u, rfl, rx⟩ := vals1 r
  cases rx
  obtain ⟨its, rv, pl, _⟩ := I.list hq
  have hi : IntsAre its ns := intsAre_of rv
  obtain ⟨xs, e⟩ := (PySem.AllInts.items (PyProof.Rows.IntsAre.allInts hi))
  have hl := pl.isList
  have hns : ns = xs.toList.map (·.1) := by rw [← hi.numsOf, ← nums_intItems, ← e]
  have hsz : 0 < xs.size := by
    have : 0 < ns.length := List.length_pos_of_mem hM
    rw [hns, List.length_map, Array.length_toList] at this; exact this
  rw [e] at hl
  refine min_intList (I.ok.hd hc) hl hsz fun v h' tk hv hk => ?_
  obtain ⟨t, rfl⟩ := intItems_at hv
  obtain ⟨h1, h2⟩ := argBest_lt (numAt xs) (xs.size - 1)
  refine ⟨.int M, H, I.kept hk, ⟨t, ?_⟩, q⟩
  have m1 : numAt xs (argBest (fun i j => decide (numAt xs i < numAt xs j)) (xs.size - 1)) ∈ ns := by
    rw [hns, numAt_eq]; exact getD_mem (by rw [List.length_map, Array.length_toList]; omega)
  have m2 : ∀ a ∈ ns, numAt xs (argBest (fun i j => decide (numAt xs i < numAt xs j)) (xs.size - 1)) ≤ a := fun a ha => by
    rw [hns] at ha
    obtain ⟨j, hj, rfl⟩ := mem_getD ha
    rw [List.length_map, Array.length_toList] at hj
    rw [← numAt_eq]; exact h2 j (by omega)
  have := hle _ m1
  have := m2 _ hM
  congr 1
  omega
def minI : List Int → Option Int
  | [] => none
  | n :: ns => some (ns.foldl (fun a b => if b < a then b else a) n)
theorem minI_some : ∀ {ns : List Int} {M : Int}, minI ns = some M → M ∈ ns ∧ ∀ a ∈ ns, M ≤ a
  | [], _, e => by cases e
  | n :: ns, M, e => by
    have key : ∀ (l : List Int) (m : Int), (l.foldl (fun a b => if b < a then b else a) m = m ∨ l.foldl (fun a b => if b < a then b else a) m ∈ l) ∧ l.foldl (fun a b => if b < a then b else a) m ≤ m ∧ ∀ a ∈ l, l.foldl (fun a b => if b < a then b else a) m ≤ a := by
      intro l
      induction l with
      | nil => intro m; exact ⟨.inl rfl, by simp, fun a h => by cases h⟩
      | cons b l ih =>
        intro m
        obtain ⟨h1, h2, h3⟩ := ih (if b < m then b else m)
        rw [List.foldl_cons]
        refine ⟨?_, ?_, fun a ha => ?_⟩
        · rcases h1 with z | z
          · rw [z]
            by_cases c : b < m
            · rw [if_pos c]; exact .inr List.mem_cons_self
            · rw [if_neg c]; exact .inl rfl
          · exact .inr (List.mem_cons_of_mem _ z)
        · by_cases c : b < m
          · rw [if_pos c] at h2 ⊢; omega
          · rw [if_neg c] at h2 ⊢; exact h2
        · rcases List.mem_cons.mp ha with rfl | ha
          · by_cases c : a < m
            · rw [if_pos c] at h2 ⊢; exact h2
            · rw [if_neg c] at h2 ⊢; omega
          · exact h3 a ha
    cases e
    obtain ⟨h1, h2, h3⟩ := key ns n
    refine ⟨?_, fun a ha => ?_⟩
    · rcases h1 with z | z
      · rw [z]; exact List.mem_cons_self
      · exact List.mem_cons_of_mem _ z
    · rcases List.mem_cons.mp ha with rfl | ha
      · exact h2
      · exact h3 a ha
def oMinL : List Dm → Option Dm
  | [.lst ds] => (ints? ds).bind fun ns => (minI ns).map .int
  | _ => none
theorem cs_minL {K : PySem.W.Frag} : CallS K (rMin K) oMinL := by
  intro vs H ds d Q h e
  unfold oMinL at e
  split at e
  · obtain ⟨ns, en, e⟩ := Option.bind_eq_some_iff.mp e
    obtain ⟨M, eM, e⟩ := Option.map_eq_some_iff.mp e
    subst e
    obtain ⟨v, rfl, q⟩ := reps1 h
    unfold Rep at q
    obtain ⟨p, xs, rfl, hq, rr⟩ := q
    rw [ints_some en] at rr
    rw [reps_ints rr] at hq
    obtain ⟨m1, m2⟩ := minI_some eM
    exact ⟨rfl, fun k => ⟨p, ns, M, rfl, hq, m1, m2, k⟩⟩
  · cases e
def srep (z : Str) (n : Nat) : Str := ⟨(List.replicate n z.cps).foldl (· ++ ·) #[]⟩
theorem srep_size (a : Array Nat) : ∀ (n : Nat) (acc : Array Nat), ((List.replicate n a).foldl (· ++ ·) acc).size = acc.size + n * a.size
  | 0, acc => by simp
  | n + 1, acc => by
    rw [List.replicate_succ, List.foldl_cons, srep_size a n, Array.size_append, Nat.add_mul]
    omega
def oSrep : Dm → Dm → Option Dm
  | .str z, .int n => if okB (2 ≤ n ∧ n ≤ 1000 ∧ 1 ≤ z.length ∧ z.length ≤ 1000) = true then some (.str (srep z n.toNat)) else none
  | _, _ => none
theorem op_srep : OpR X (binaryOp .Mult) (fun x y H Q => ∃ i n, x = .str i ∧ y = .int n ∧ (2 ≤ n ∧ n ≤ 1000 ∧ 1 ≤ i.length ∧ i.length ≤ 1000) ∧ Q (.str (srep i n.toNat)) H) := by
  intro pins s σ H x y v u Q I rx ry h
  obtain ⟨i, n, rfl, rfl, ⟨c1, c2, c3, c4⟩, q⟩ := h
  obtain ⟨t, rfl⟩ := rx
  obtain ⟨t', rfl⟩ := ry
  have hb : (n == 1 || i.length == 0) = false := by
    rw [Bool.or_eq_false_iff]
    refine ⟨by simp; omega, by simp; omega⟩
  refine P.mul_str (by rw [decide_eq_false (by omega), decide_eq_false (by omega)]; rfl) (fun _ _ z => ?_) (fun _ _ => ?_) ?_
  · have : (2 ^ 63 - 1 : Int) / n ≥ 1000 := by
      have : (1000 : Int) * n ≤ 2 ^ 63 - 1 := by omega
      exact (Int.le_ediv_iff_mul_le (by omega)).mpr this
    omega
  · unfold Builtin.Str.tooLong
    have : i.length * n.toNat ≤ 1000 * 1000 := Nat.mul_le_mul c4 (by omega)
    simp
    first | omega | (rw [sizeLine_eq]; omega)
  · rw [if_neg (by omega), if_neg (by rw [hb]; exact Bool.false_ne_true)]
    refine ⟨?_, .str (srep i n.toNat), H, I.tok _, ⟨_, rfl⟩, q⟩
    have h1 : i.length * n.toNat ≤ 1000 * 1000 := Nat.mul_le_mul c4 (by omega)
    have h2 := srep_size i.cps n.toNat #[]
    show (List.foldl (fun x1 x2 => x1 ++ x2) #[] (List.replicate n.toNat i.cps)).size ≤ sizeLine
    have h3 : i.length = i.cps.size := rfl
    rw [h2, sizeLine_eq, Nat.mul_comm n.toNat, ← h3]
    simp
    omega
theorem op2_srep {K : PySem.W.Frag} : Op2 K (fun x y H Q => ∃ i n, x = .str i ∧ y = .int n ∧ (2 ≤ n ∧ n ≤ 1000 ∧ 1 ≤ i.length ∧ i.length ≤ 1000) ∧ Q (.str (srep i n.toNat)) H) oSrep := by
  intro x y H a b d Q ra rb e
  unfold oSrep at e
  split at e
  · split at e
    · rename_i h
      cases e
      unfold Rep at ra rb
      exact ⟨rfl, fun q => ⟨_, _, ra, rb, okB_iff.mp h, q⟩⟩
    · cases e
  · cases e
theorem pd_srep {a b : Expr} {pos : Pos} {fa fb : EF} (ha : PD X a fa) (hb : PD X b fb) : PD X (.BinOp a .Mult b pos) (op2 oSrep fa fb) := pd_op2 op_srep op2_srep ha hb
theorem relabel_free {env : Env} {x : Str} : ∀ {names : List (Str × NameKind)}, names.lookup x = some .free → (names.map fun (n, k) => if (k == NameKind.free && env.scope.kind == .function && env.kindOf n == some .cell) then (n, NameKind.cell) else (n, k)).lookup x = some .cell ∨ (names.map fun (n, k) => if (k == NameKind.free && env.scope.kind == .function && env.kindOf n == some .cell) then (n, NameKind.cell) else (n, k)).lookup x = some .free
  | [], h => by simp at h
  | (n, k) :: r, h => by
    rw [List.map_cons]
    by_cases hc : (k == NameKind.free && env.scope.kind == .function && env.kindOf n == some .cell) = true
    · have e : (match ((n, k) : Str × NameKind) with | (n, k) => if (k == NameKind.free && env.scope.kind == .function && env.kindOf n == some .cell) = true then (n, NameKind.cell) else (n, k)) = (n, NameKind.cell) := if_pos hc
      rw [e, List.lookup_cons]
      rw [List.lookup_cons] at h
      cases hx : (x == n) with
      | true => exact .inl rfl
      | false => rw [hx] at h; exact relabel_free h
    · have e : (match ((n, k) : Str × NameKind) with | (n, k) => if (k == NameKind.free && env.scope.kind == .function && env.kindOf n == some .cell) = true then (n, NameKind.cell) else (n, k)) = (n, k) := if_neg hc
      rw [e, List.lookup_cons]
      rw [List.lookup_cons] at h
      cases hx : (x == n) with
      | true => rw [hx] at h; exact .inr h
      | false => rw [hx] at h; exact relabel_free h
theorem compOk_nest {N : List Str} {scope1 scope2 : Scope} {N' : List Str} {ix : List (Option Nat)} {env : Env} (hc : (scope1.names.all fun y => decide (y.2 ≠ .cell)) = true) (h : CompOk N scope1 scope2 N' ix) : CompOk N (relabel scope1 env) scope2 N' ix := by
  refine ⟨h.cell, h.kind, h.loc, fun y hy e => ?_, h.len, h.at_, h.nd⟩
  rcases h.fre y hy e with z | z
  · have := of_decide_eq_true (List.all_eq_true.mp hc _ (mem_of_lookup z))
    exact absurd rfl this
  · exact relabel_free z
def cscope : Stmt → Scope
  | .Assign _ (.ListComp _ _ sc _) _ => sc
  | st => defScope st
end
end BF
set_option Elab.async false
set_option linter.all false
set_option maxRecDepth 100000
set_option maxHeartbeats 4000000
namespace LW
open PySem L2 BF
noncomputable section
def B__law_number_1 : SF :=
    (gSeq (gSet 3 (fz (fM oFind (fC (.str "0123456789")) [(fVar 2)])))
      (gSeq (gIf (bB (op2 oLt (fVar 3) (fC (.int 0))))
      (gRet (fNeg (fC (.int 1))))
      BF.gNil)
      (gSet 1 (op2 oAdd (op2 oMul (fC (.int 10)) (fVar 1)) (fVar 3)))))
def F__law_number : FD := bodyD 1 4
    (gSeq (gIf (bOr (bB (op2 (oEq false) (fVar 0) (fC (.str "")))) (bAnd (bB (op2 (oEq false) (fIx (fVar 0) (fC (.int 0))) (fC (.str "0")))) (bB (op2 (oEq true) (fVar 0) (fC (.str "0"))))))
      (gRet (fNeg (fC (.int 1))))
      BF.gNil)
      (gSeq (gSet 1 (fC (.int 0)))
      (gSeq (gFor (iS (fVar 0)) (.nm 2) B__law_number_1)
      (gRet (fVar 1)))))
def B__law_fine_1 : SF :=
    (gSeq (gSet 4 (fz (fSplit (fVar 3) (fC (.str " ")))))
      (gSeq (gSet 5 (fz (fComp (iL (fSl (fVar 4) (pSome (fC (.int 1))) pNo)) (.nm 0) [none, some 0, some 1, some 2, some 3, some 4, some 5, some 6] (fCall F__law_number [(fVar 0)]))))
      (gSeq (gIf (bOr (bB (op2 (oEq false) (fB oLen [(fVar 5)]) (fC (.int 0)))) (bB (op2 oLt (fB oMinL [(fVar 5)]) (fC (.int 0)))))
      (gRet (fC (.bl false)))
      BF.gNil)
      (gIf (bB (op2 (oEq false) (fIx (fVar 4) (fC (.int 0))) (fC (.str "fix"))))
      (gIf (bOr (bB (op2 (oEq true) (fB oLen [(fVar 5)]) (fC (.int 1)))) (bB (op2 oGe (fIx (fVar 5) (fC (.int 0))) (op2 oShl (fC (.int 1)) (fVar 0)))))
      (gRet (fC (.bl false)))
      BF.gNil)
      (gIf (bB (op2 (oIn false) (fIx (fVar 4) (fC (.int 0))) (fTup [(fC (.str "mask")), (fC (.str "turn")), (fC (.str "both")), (fC (.str "up")), (fC (.str "down"))])))
      (gSeq (gSet 6 (fz (fVar 0)))
      (gSeq (gIf (bB (op2 (oIn false) (fIx (fVar 4) (fC (.int 0))) (fTup [(fC (.str "mask")), (fC (.str "turn"))])))
      (gSet 6 (op2 oSub (op2 oShl (fC (.int 1)) (fVar 0)) (fC (.int 1))))
      BF.gNil)
      (gSeq (gIf (bB (op2 (oEq false) (fIx (fVar 4) (fC (.int 0))) (fC (.str "both"))))
      (gSet 6 (fz (fVar 2)))
      BF.gNil)
      (gIf (bOr (bB (op2 (oEq true) (fB oLen [(fVar 5)]) (fC (.int 2)))) (bOr (bB (op2 oGt (fIx (fVar 5) (fC (.int 0))) (fVar 2))) (bB (op2 oGt (fIx (fVar 5) (fC (.int 1))) (fVar 6)))))
      (gRet (fC (.bl false)))
      BF.gNil))))
      (gRet (fC (.bl false))))))))
def F__law_fine : FD := bodyD 2 7
    (gSeq (gFor (iE (fVar 1)) (.tp [2, 3]) B__law_fine_1)
      (gRet (fC (.bl true))))
def F_bounds_of : FDX := bodyX 3 4
    (xSeq (xl (gSet 3 (op2 oSub (op2 oShl (fC (.int 1)) (fVar 0)) (fC (.int 1)))))
      (xSeq (xl (gIf (bB (op2 (oEq false) (fVar 1) (fC (.str "fix"))))
      (gRet (fLst [(fVar 3)]))
      BF.gNil))
      (xSeq (xl (gIf (bB (op2 (oIn false) (fVar 1) (fTup [(fC (.str "mask")), (fC (.str "turn"))])))
      (gRet (fLst [(fVar 2), (fVar 3)]))
      BF.gNil))
      (xSeq (xl (gIf (bB (op2 (oEq false) (fVar 1) (fC (.str "both"))))
      (gRet (fLst [(fVar 2), (fVar 2)]))
      BF.gNil))
      (xSeq (xl (gIf (bB (op2 (oIn false) (fVar 1) (fTup [(fC (.str "up")), (fC (.str "down"))])))
      (gRet (fLst [(fVar 2), (fVar 0)]))
      BF.gNil))
      (xRaise "NoDeed" (fJs [(fC (.str "no deed is called ")), (fRpr (fVar 1))])))))))
def F_is_number : FD := bodyD 1 1
    (gSeq (gIf (bOr (bB (op2 (oEq false) (fVar 0) (fC (.str "")))) (bAnd (bB (op2 (oEq false) (fIx (fVar 0) (fC (.int 0))) (fC (.str "0")))) (bB (op2 (oEq true) (fVar 0) (fC (.str "0"))))))
      (gRet (fC (.bl false)))
      BF.gNil)
      (gRet (fB (oAll fun bs => bs.all id) [(fComp (iS (fVar 0)) (.nm 0) [none, some 0] (op2 (oIn false) (fVar 0) (fC (.str "0123456789"))))])))
def F_number_of : FDX := bodyX 2 2
    (xSeq (xIf (bNot (bB (fCall F_is_number [(fVar 0)])))
      (xRaise "NoDeed" (fJs [(fC (.str "no number: ")), (fRpr (fVar 0))]))
      (xl BF.gNil))
      (xSeq (xIf (bOr (bB (op2 oGt (fB oLen [(fVar 0)]) (fB oLen [(fB oStr [(fVar 1)])]))) (bB (op2 oGt (fB oInt [(fVar 0)]) (fVar 1))))
      (xRaise "NoDeed" (fJs [(fC (.str "beyond ")), (fFmt (fVar 1)), (fC (.str ": ")), (fRpr (fVar 0))]))
      (xl BF.gNil))
      (xl (gRet (fB oInt [(fVar 0)])))))
def F_deed_of : FDX := bodyX 3 6
    (xSeq (xl (gSet 3 (fz (fSplit (fVar 1) (fC (.str " "))))))
      (xSeq (xSet 4 (fzX (fCallX F_bounds_of [(fVar 0), (fIx (fVar 3) (fC (.int 0))), (fVar 2)])))
      (xSeq (xIf (bB (op2 (oEq true) (fB oLen [(fVar 3)]) (op2 oAdd (fB oLen [(fVar 4)]) (fC (.int 1)))))
      (xRaise "NoDeed" (fJs [(fC (.str "too few or too many numbers: ")), (fRpr (fVar 1))]))
      (xl BF.gNil))
      (xSeq (xSet 5 (fzX (xComp (iZ (fSl (fVar 3) (pSome (fC (.int 1))) pNo) (fVar 4)) (.tp [0, 1]) [none, none, some 0, some 1, some 2, some 3, some 4, some 5] (fCallX F_number_of [(fVar 0), (fVar 1)]))))
      (xl (gRet (fTuple (fCat (fLst [(fIx (fVar 3) (fC (.int 0)))]) (fVar 5)))))))))
def B_read_1 : SFX :=
    (xApp 2 (fCallX F_deed_of [(fVar 0), (fVar 3), (fB oLen [(fVar 2)])]))
def F_read : FDX := bodyX 2 4
    (xSeq (xl (gSet 2 (fLst [])))
      (xSeq (xFor (iS (fVar 1)) (.nm 3) B_read_1)
      (xl (gRet (fVar 2)))))
def F__law_asked : FD := bodyD 2 6
    (gSeq (gSet 2 (fz (fC .non)))
      (gSeq (gSet 3 (fz (fC .non)))
      (gSeq (gSet 4 (fz (fList (fVar 1))))
      (gSeq (gTry 2 3 5 ["NoDeed"] (fzX (fCallX F_read [(fVar 0), (fVar 4)])))
      (gSeq (gIf (bB (op2 (oEq true) (fVar 4) (fVar 1)))
      (gRet (fC (.bl false)))
      BF.gNil)
      (gSeq (gIf (bB (fCall F__law_fine [(fVar 0), (fVar 1)]))
      (gRet (vAnd (fXc 3 ["NoDeed"] true fun _ => false) (vAnd (fIsi (fVar 2) "list") (op2 (oEq false) (fB oLen [(fVar 2)]) (fB oLen [(fVar 1)])))))
      BF.gNil)
      (gSeq (gIf (bB (fXc 3 ["NoDeed"] false fun c => ([] : List Str).contains c))
      (gRet (fC (.bl false)))
      BF.gNil)
      (gRet (vAnd (fXc 3 ["NoDeed"] false fun c => (["NoDeed"] : List Str).contains c) (fXc 3 ["NoDeed"] false fun c => (["NoDeed"] : List Str).contains c))))))))))
def F__law_bad : FD := bodyD 3 5
    (gSeq (gSet 3 (fB oStr [(op2 oShl (fC (.int 1)) (fVar 1))]))
      (gSeq (gSet 4 (fz (fLst [(op2 oScat (fC (.str "fix ")) (fVar 3)), (op2 oScat (fC (.str "mask 0 ")) (fVar 3)), (op2 oScat (fC (.str "turn 0 ")) (fVar 3)), (op2 oScat (fC (.str "up 0 ")) (fB oStr [(op2 oAdd (fVar 1) (fC (.int 1)))])), (op2 oScat (fC (.str "down 0 ")) (fB oStr [(op2 oAdd (fVar 1) (fC (.int 1)))]))])))
      (gSeq (gSet 4 (fz (fCat (fVar 4) (fLst [(op2 oScat (fC (.str "both 0 ")) (fB oStr [(op2 oAdd (fVar 2) (fC (.int 1)))])), (op2 oScat (op2 oScat (fC (.str "both ")) (fB oStr [(op2 oAdd (fVar 2) (fC (.int 1)))])) (fC (.str " 0"))), (op2 oScat (op2 oScat (fC (.str "mask ")) (fB oStr [(op2 oAdd (fVar 2) (fC (.int 1)))])) (fC (.str " 0")))]))))
      (gSeq (gSet 4 (fz (fCat (fVar 4) (fLst [(fC (.str "")), (fC (.str " ")), (fC (.str "fix")), (fC (.str "fix 1 1")), (fC (.str "mask 0")), (fC (.str "mask 0 0 0")), (fC (.str "Fix 0")), (fC (.str "fix 00")), (fC (.str "mask 0 01"))]))))
      (gSeq (gSet 4 (fz (fCat (fVar 4) (fLst [(fC (.str "up 0  1")), (fC (.str "up 0 1 "))]))))
      (gSeq (gSet 4 (fz (fCat (fVar 4) (fLst [(fC (.str " up 0 1")), (fC (.str "up -1 0")), (fC (.str "fix +1")), (fC (.str "fix 1_0")), (fC (.str "both 0")), (fC (.str "up 0 x")), (fC (.str "or 0 0")), (op2 oScat (fC (.str "fix ")) (op2 oSrep (fC (.str "9")) (fC (.int 50))))]))))
      (gSeq (gSet 4 (fz (fCat (fVar 4) (fLst [(op2 oScat (fC (.str "up 0 ")) (fB oStr [(fVar 1)])), (op2 oScat (fC (.str "both 0 ")) (fB oStr [(fVar 2)])), (op2 oScat (fC (.str "fix ")) (fB oStr [(op2 oSub (op2 oShl (fC (.int 1)) (fVar 1)) (fC (.int 1)))])), (fC (.str "down 0 0"))]))))
      (gRet (fIx (fVar 4) (op2 oMod (fVar 0) (fB oLen [(fVar 4)])))))))))))
def F__law_mixed : FD := bodyD 2 3
    (gSeq (gIf (bB (op2 oGe (fVar 0) (op2 oPow (fC (.int 10)) (fC (.int 40)))))
      (gRet (op2 oMod (op2 oDiv (op2 oSub (fVar 0) (op2 oPow (fC (.int 10)) (fC (.int 40)))) (op2 oShl (fC (.int 1)) (op2 oMul (fC (.int 100)) (op2 oMod (fVar 1) (fC (.int 60)))))) (op2 oShl (fC (.int 1)) (fC (.int 100)))))
      BF.gNil)
      (gSeq (gSet 2 (op2 oMod (op2 oMul (op2 oAdd (op2 oAdd (op2 oAdd (op2 oMul (fVar 0) (fVar 0)) (op2 oMul (fC (.int 3)) (fVar 0))) (op2 oMul (fC (.int 7919)) (fVar 1))) (fC (.int 1))) (fC (.int 48271))) (fC (.int 2147483629))))
      (gRet (op2 oMod (op2 oAdd (op2 oMul (fVar 2) (fVar 2)) (fC (.int 7))) (fC (.int 2147483587))))))
def F__law_word : FD := bodyD 2 2
    (gRet (op2 oMod (op2 oDiv (op2 oMul (fVar 0) (op2 oAdd (op2 oPow (fC (.int 10)) (fC (.int 19))) (fC (.int 51)))) (fC (.int 4096))) (op2 oShl (fC (.int 1)) (fVar 1))))
def F__law_deed : FD := bodyD 3 6
    (gSeq (gSet 3 (op2 oMod (op2 oDiv (fVar 0) (fC (.int 11))) (fVar 2)))
      (gSeq (gIf (bB (op2 oGt (op2 oMod (op2 oDiv (fVar 0) (fC (.int 5))) (fC (.int 3))) (fC (.int 0))))
      (gSet 3 (op2 oSub (op2 oSub (fVar 2) (fC (.int 1))) (op2 oMod (op2 oDiv (fVar 0) (fC (.int 11))) (fB oMin [(fVar 2), (fC (.int 3))]))))
      BF.gNil)
      (gSeq (gSet 4 (op2 oMod (fVar 0) (fC (.int 11))))
      (gSeq (gSet 5 (fz (fCall F__law_word [(fVar 0), (fVar 1)])))
      (gSeq (gIf (bB (op2 (oEq false) (fVar 4) (fC (.int 0))))
      (gRet (fTup [(fC (.str "fix")), (fVar 5)]))
      BF.gNil)
      (gSeq (gIf (bB (op2 oLt (fVar 4) (fC (.int 3))))
      (gRet (fTup [(fC (.str "mask")), (fVar 3), (fIx (fLst [(fVar 5), (fVar 5), (op2 oSub (op2 oShl (fC (.int 1)) (fVar 1)) (fC (.int 1))), (fC (.int 0))]) (op2 oMod (op2 oDiv (fVar 0) (fC (.int 13))) (fC (.int 4))))]))
      BF.gNil)
      (gSeq (gIf (bB (op2 oLt (fVar 4) (fC (.int 5))))
      (gRet (fTup [(fC (.str "turn")), (fVar 3), (fVar 5)]))
      BF.gNil)
      (gSeq (gIf (bB (op2 oLt (fVar 4) (fC (.int 8))))
      (gRet (fTup [(fC (.str "both")), (fVar 3), (op2 oMod (op2 oDiv (fVar 0) (fC (.int 1009))) (fVar 2))]))
      BF.gNil)
      (gRet (fTup [(fIx (fLst [(fC (.str "up")), (fC (.str "down"))]) (op2 oMod (op2 oDiv (fVar 0) (fC (.int 17))) (fC (.int 2)))), (fVar 3), (op2 oMod (op2 oDiv (fVar 0) (fC (.int 34))) (op2 oAdd (fVar 1) (fC (.int 1))))]))))))))))
def B__law_rows_1 : SF :=
    (gApp 3 (fCall F__law_deed [(fCall F__law_mixed [(fVar 5), (fVar 4)]), (fVar 1), (op2 oAdd (fB oLen [(fVar 3)]) (fC (.int 1)))]))
def F__law_rows : FD := bodyD 3 6
    (gSeq (gSet 3 (fLst []))
      (gSeq (gFor (iE (fSl (fVar 0) pNo (pSome (fVar 2)))) (.tp [4, 5]) B__law_rows_1)
      (gRet (fVar 3))))
def B_law_1 : SF :=
    (gSeq (gSet 8 (fz (fCall F__law_mixed [(fVar 7), (op2 oAdd (fC (.int 200)) (fVar 6))])))
      (gSeq (gSet 9 (op2 oMod (op2 oDiv (fVar 8) (fC (.int 7))) (op2 oAdd (fB oLen [(fVar 5)]) (fC (.int 1)))))
      (gSeq (gSet 10 (fz (fCall F__law_bad [(op2 oDiv (fVar 8) (fC (.int 1000))), (fVar 3), (fVar 9)])))
      (gIf (bNot (bB (fCall F__law_asked [(fVar 3), (fCat (fCat (fSl (fVar 5) pNo (pSome (fVar 9))) (fLst [(fVar 10)])) (fSl (fVar 5) (pSome (op2 oAdd (fVar 9) (op2 oMod (fVar 8) (fC (.int 2))))) pNo))])))
      (gRet (fC (.bl false)))
      BF.gNil))))
def F_law : FD := bodyD 1 11
    (gSeq (gSet 1 (fz (fSl (fVar 0) (pSome (fC (.int 1))) (pSome (fC (.int 41))))))
      (gSeq (gSet 2 (fC (.int 3)))
      (gSeq (gIf (bB (op2 oGt (fB oLen [(fVar 0)]) (fC (.int 0))))
      (gSet 2 (fz (fIx (fVar 0) (fC (.int 0)))))
      BF.gNil)
      (gSeq (gSet 3 (fz (fIx (fLst [(fC (.int 8)), (fC (.int 4)), (fC (.int 16)), (fC (.int 1)), (fC (.int 2)), (fC (.int 32)), (fC (.int 64)), (fC (.int 8)), (fC (.int 4))]) (op2 oMod (fVar 2) (fC (.int 9))))))
      (gSeq (gSet 4 (fz (fCall F__law_rows [(fVar 1), (fVar 3), (fC (.int 40))])))
      (gSeq (gSet 5 (fz (fComp (iL (fVar 4)) (.nm 0) [none, some 0, some 1, some 2, some 3, some 4, some 5, some 6, some 7, some 8, some 9, some 10] (fM oJoin (fC (.str " ")) [(fComp (iS (fVar 0)) (.nm 0) [none, some 0, some 1, some 2, some 3, some 4, some 5, some 6, some 7, some 8, some 9, some 10, some 11] (fB oStr [(fVar 0)]))]))))
      (gSeq (gFor (iE (fCat (fLst [(fVar 2)]) (fSl (fVar 1) pNo (pSome (fC (.int 11)))))) (.tp [6, 7]) B_law_1)
      (gRet (vAnd (fCall F__law_asked [(fVar 3), (fVar 5)]) (fCall F__law_asked [(fVar 3), (fLst [])]))))))))))
end
end LW
set_option Elab.async false
set_option linter.all false
set_option maxRecDepth 100000
set_option maxHeartbeats 4000000
namespace LW
open PySem L2 BF
set_option linter.unusedSimpArgs false
inductive Deed where
  | fix (m : Nat) | mask (a m : Nat) | turn (a m : Nat) | both (a b : Nat) | up (a n : Nat) | down (a n : Nat)
def enc : Deed → Dm
  | .fix m => .tup [.str "fix", .int m]
  | .mask a m => .tup [.str "mask", .int a, .int m]
  | .turn a m => .tup [.str "turn", .int a, .int m]
  | .both a b => .tup [.str "both", .int a, .int b]
  | .up a n => .tup [.str "up", .int a, .int n]
  | .down a n => .tup [.str "down", .int a, .int n]
def Good (w many : Nat) : Deed → Prop
  | .fix m => m < 2 ^ w
  | .mask a m => a < many ∧ m < 2 ^ w
  | .turn a m => a < many ∧ m < 2 ^ w
  | .both a b => a < many ∧ b < many
  | .up a n => a < many ∧ n ≤ w
  | .down a n => a < many ∧ n ≤ w
theorem okEq_int (i : Int) : okEq (.int i) = true := by simp [okEq, toPy, PySem.SeqAt.shaped, PyData.canLay0, PyData.depth]
theorem eqD_int (i j : Int) : eqD (.int i) (.int j) = (i == j) := by simp [eqD, toPy, PyData.eqv]
theorem oEq_int (neg : Bool) (i j : Int) : oEq neg (.int i) (.int j) = some (.bl (if neg then !(i == j) else i == j)) := by simp [oEq, okEq_int, eqD_int]
def GoodRow (w : Nat) (ds : List Deed) : Prop := ∀ i d, ds[i]? = some d → Good w (i + 1) d
theorem goodRow_snoc {w : Nat} {ds : List Deed} {d : Deed} (h : GoodRow w ds) (hd : Good w (ds.length + 1) d) : GoodRow w (ds ++ [d]) := fun i e he => by
  rcases Nat.lt_trichotomy i ds.length with hl | rfl | hg
  · rw [List.getElem?_append_left hl] at he; exact h i e he
  · rw [List.getElem?_append_right (Nat.le_refl _), Nat.sub_self] at he
    cases he
    exact hd
  · rw [List.getElem?_append_right (by omega)] at he
    obtain ⟨n, hn⟩ : ∃ n, i - ds.length = n + 1 := ⟨i - ds.length - 1, by omega⟩
    rw [hn] at he
    simp at he
def step (w : Nat) (vs : List Nat) : Deed → Nat
  | .fix m => m
  | .mask a m => vs.getD a 0 &&& m
  | .turn a m => vs.getD a 0 ^^^ m
  | .both a b => vs.getD a 0 ^^^ vs.getD b 0
  | .up a n => vs.getD a 0 * 2 ^ n % 2 ^ w
  | .down a n => vs.getD a 0 / 2 ^ n
def vals (w : Nat) : List Nat → List Deed → List Nat
  | vs, [] => vs
  | vs, d :: r => vals w (vs ++ [step w vs d]) r
def nats (vs : List Nat) : List Dm := vs.map fun (v : Nat) => Dm.int (v : Int)
section
variable {δ : List Sl} {fa fb : EF} {a b : Nat}
theorem beqN (a b : Nat) : ((a : Int) == (b : Int)) = decide (a = b) := by
  by_cases h : a = b
  · subst h; simp
  · rw [decide_eq_false h]; simp; omega
theorem addN (h1 : dt fa δ = some (.int a)) (h2 : dt fb δ = some (.int b)) : op2 oAdd fa fb δ = some (.sh (.int (a + b : Nat))) := op2_of h1 h2 (by show oI _ _ _ _ = _; rw [oI_int, if_pos rfl]; push_cast; rfl)
theorem subN (h1 : dt fa δ = some (.int a)) (h2 : dt fb δ = some (.int b)) (h : b ≤ a) : op2 oSub fa fb δ = some (.sh (.int (a - b : Nat))) := op2_of h1 h2 (by show oI _ _ _ _ = _; rw [oI_int, if_pos rfl, Int.ofNat_sub h])
theorem divN (h1 : dt fa δ = some (.int a)) (h2 : dt fb δ = some (.int b)) (h : 0 < b) (h' : b < 2 ^ 64) : op2 oDiv fa fb δ = some (.sh (.int (a / b : Nat))) := op2_of h1 h2 (by show oI _ _ _ _ = _; rw [oI_int, if_pos (divOk_small (by omega) (by omega))]; push_cast; rfl)
theorem modN (h1 : dt fa δ = some (.int a)) (h2 : dt fb δ = some (.int b)) (h : 0 < b) : op2 oMod fa fb δ = some (.sh (.int (a % b : Nat))) := op2_of h1 h2 (by show oI _ _ _ _ = _; rw [oI_int, if_pos (posOk_of (by omega))]; push_cast; rfl)
theorem mulN (h1 : dt fa δ = some (.int a)) (h2 : dt fb δ = some (.int b)) (h : a < 2 ^ 64) : op2 oMul fa fb δ = some (.sh (.int (a * b : Nat))) := op2_of h1 h2 (by show oI _ _ _ _ = _; rw [oI_int, if_pos (mulOk_left (by omega) (by omega))]; push_cast; rfl)
theorem shlN (h1 : dt fa δ = some (.int a)) (h2 : dt fb δ = some (.int b)) (h : a < 2 ^ 64) (h' : b ≤ 1000000) : op2 oShl fa fb δ = some (.sh (.int (a * 2 ^ b : Nat))) := op2_of h1 h2 (by show oI _ _ _ _ = _; rw [oI_int, if_pos (powOk_of (by omega) (by omega) (by omega)), Int.toNat_natCast]; push_cast; rfl)
theorem shl1 (h2 : dt fb δ = some (.int b)) (h' : b ≤ 1000000) : op2 oShl (fC (.int 1)) fb δ = some (.sh (.int (2 ^ b : Nat))) := by
  have := shlN (a := 1) (fa := fC (.int 1)) (dt_of rfl) h2 (by decide) h'
  rw [Nat.one_mul] at this
  exact this
theorem ltN {v : Bool} (h1 : dt fa δ = some (.int a)) (h2 : dt fb δ = some (.int b)) (e : decide (a < b) = v) : bB (op2 oLt fa fb) δ = some v := bB_of (dt_of (op2_of (d := .bl v) h1 h2 (by show oI _ _ _ _ = _; rw [oI_int, if_pos rfl, ← e]; congr 2; simp)))
theorem gtN {v : Bool} (h1 : dt fa δ = some (.int a)) (h2 : dt fb δ = some (.int b)) (e : decide (b < a) = v) : bB (op2 oGt fa fb) δ = some v := bB_of (dt_of (op2_of (d := .bl v) h1 h2 (by show oI _ _ _ _ = _; rw [oI_int, if_pos rfl, ← e]; congr 2; simp)))
theorem geN {v : Bool} (h1 : dt fa δ = some (.int a)) (h2 : dt fb δ = some (.int b)) (e : decide (b ≤ a) = v) : bB (op2 oGe fa fb) δ = some v := bB_of (dt_of (op2_of (d := .bl v) h1 h2 (by show oI _ _ _ _ = _; rw [oI_int, if_pos rfl, ← e]; congr 2; simp)))
theorem eqN' {v : Bool} (h1 : dt fa δ = some (.int a)) (h2 : dt fb δ = some (.int b)) (e : decide (a = b) = v) : op2 (oEq false) fa fb δ = some (.sh (.bl v)) := op2_of h1 h2 (by rw [oEq_int, if_neg Bool.false_ne_true, ← e, beqN])
theorem eqN {v : Bool} (h1 : dt fa δ = some (.int a)) (h2 : dt fb δ = some (.int b)) (e : decide (a = b) = v) : bB (op2 (oEq false) fa fb) δ = some v := bB_of (dt_of (eqN' h1 h2 e))
theorem neN {v : Bool} (h1 : dt fa δ = some (.int a)) (h2 : dt fb δ = some (.int b)) (e : decide (a ≠ b) = v) : bB (op2 (oEq true) fa fb) δ = some v := bB_of (dt_of (op2_of (d := .bl v) h1 h2 (by rw [oEq_int, if_pos rfl, ← e, beqN]; congr 2; simp)))
end
theorem bAndV {f g : BF'} {δ : List Sl} {x y : Bool} (h : f δ = some x) (h2 : g δ = some y) : bAnd f g δ = some (x && y) := by unfold bAnd; rw [h, Option.bind_some]; cases x <;> simp [h2]
theorem bOrV {f g : BF'} {δ : List Sl} {x y : Bool} (h : f δ = some x) (h2 : g δ = some y) : bOr f g δ = some (x || y) := by unfold bOr; rw [h, Option.bind_some]; cases x <;> simp [h2]
theorem body_ret {np nN : Nat} {g : SF} {ds : List Dm} {δ : List Sl} {r : Rs} (d : Rs) (hl : ds.length = np) (hδ : ds.map Sl.sh ++ List.replicate (nN - np) Sl.un = δ) (h : g δ = some (.rt r)) (e : r = d) : bodyD np nN g ds = some d := by rw [← e]; exact body_rt hl hδ h
theorem iE_of {f : EF} {δ : List Sl} {r : Rs} {ds : List Dm} (h : f δ = some r) (h2 : r.fz = .sh (.lst ds)) : iE f δ = some (enumFrom 0 ds) := by
  unfold iE
  rw [fz_some h, Option.bind_some, h2, ← enumD_from]
  rfl
theorem ok_lit0 : okEq (.str (("" : String) : Str)) = true := by decide +kernel
theorem ok_lit1 : okEq (.str (("0" : String) : Str)) = true := by decide +kernel
theorem beq_ne {a b : Str} (h : a ≠ b) : (a == b) = false := by simpa using h
section
variable {g1 g2 : SFX} {δ δ' : List Sl} {o : Fl ⊕ Str} {r : Rs} {c : Str}
theorem xseq_nx (h1 : g1 δ = some (.inl (.nx δ'))) (h2 : g2 δ' = some o) : xSeq g1 g2 δ = some o := by unfold xSeq; rw [h1]; exact h2
theorem xseq_rt (h1 : g1 δ = some (.inl (.rt r))) : xSeq g1 g2 δ = some (.inl (.rt r)) := by unfold xSeq; rw [h1]; rfl
theorem xseq_ex (h1 : g1 δ = some (.inr c)) : xSeq g1 g2 δ = some (.inr c) := by unfold xSeq; rw [h1]; rfl
theorem xl_of {g : SF} {fl : Fl} (h : g δ = some fl) : xl g δ = some (.inl fl) := by unfold xl; rw [h]; rfl
theorem xif_t {b : BF'} (h : b δ = some true) (h1 : g1 δ = some o) : xIf b g1 g2 δ = some o := by unfold xIf; rw [h]; exact h1
theorem xif_f {b : BF'} (h : b δ = some false) (h1 : g2 δ = some o) : xIf b g1 g2 δ = some o := by unfold xIf; rw [h]; exact h1
theorem xraise_of {f : EF} (h : f δ = some r) : xRaise c f δ = some (.inr c) := by unfold xRaise; rw [h]; rfl
theorem xset_ok {i : Nat} {f : EFX} {s : Sl} (h : f δ = some (.inl r)) (hs : r.sl = some s) : xSet i f δ = some (.inl (.nx (δ.set i s))) := by unfold xSet; rw [h, Option.bind_some]; show r.sl.map _ = _; rw [hs]; rfl
theorem xset_ex {i : Nat} {f : EFX} (h : f δ = some (.inr c)) : xSet i f δ = some (.inr c) := by unfold xSet; rw [h]; rfl
theorem callx_ok {F : FDX} {fs : List EF} {rs : List Rs} (h1 : evs fs δ = some rs) (h2 : F (rs.map Rs.dat) = some (.inl r)) (h3 : (rs.all Rs.isSh || r.scal) = true) : fCallX F fs δ = some (.inl r) := by
  unfold fCallX; rw [h1, Option.bind_some, h2, Option.bind_some]; show (if _ then _ else _) = _; rw [if_pos h3]
theorem callx_ex {F : FDX} {fs : List EF} {rs : List Rs} (h1 : evs fs δ = some rs) (h2 : F (rs.map Rs.dat) = some (.inr c)) : fCallX F fs δ = some (.inr c) := by
  unfold fCallX; rw [h1, Option.bind_some, h2]; rfl
theorem fzx_ok {f : EFX} (h : f δ = some (.inl r)) : fzX f δ = some (.inl r.fz) := by unfold fzX; rw [h]; rfl
theorem fzx_ex {f : EFX} (h : f δ = some (.inr c)) : fzX f δ = some (.inr c) := by unfold fzX; rw [h]; rfl
theorem bodyx_rt {np nN : Nat} {g : SFX} {ds : List Dm} (hl : ds.length = np) (hδ : ds.map Sl.sh ++ List.replicate (nN - np) Sl.un = δ) (h : g δ = some (.inl (.rt r))) : bodyX np nN g ds = some (.inl r) := by unfold bodyX; rw [if_pos hl, hδ, h]
theorem bodyx_ex {np nN : Nat} {g : SFX} {ds : List Dm} (hl : ds.length = np) (hδ : ds.map Sl.sh ++ List.replicate (nN - np) Sl.un = δ) (h : g δ = some (.inr c)) : bodyX np nN g ds = some (.inr c) := by unfold bodyX; rw [if_pos hl, hδ, h]
end
def Fit (z : Str) : Prop := z.length ≤ 400 ∧ ∀ c ∈ z.cps.toList, c < 0x110000
theorem Fit.ok {z : Str} (h : Fit z) : okEq (.str z) = true := okEq_str h.2
theorem Fit.repr {z : Str} (h : Fit z) : (reprText z).length ≤ 4002 := by
  have := StrLaws.reprText_len z fun c hc => by have := h.2 c hc; omega
  have := h.1
  omega
def dig (c : Nat) : Bool := decide (48 ≤ c ∧ c ≤ 57)
def isNum : List Nat → Bool
  | [] => false
  | c :: r => !(decide (c = 48) && decide (r ≠ [])) && (c :: r).all dig
theorem isNum_cons (c : Nat) (r : List Nat) : isNum (c :: r) = (!(decide (c = 48) && decide (r ≠ [])) && (c :: r).all dig) := rfl
def valL (l : List Nat) : Nat := l.foldl (fun n c => 10 * n + (c - 48)) 0
theorem inS_one (c : Nat) : inS ⟨#[c]⟩ (("0123456789" : String) : Str) = dig c := by
  unfold inS
  rw [StrLaws.found_one]
  have e : ((("0123456789" : String) : Str)).cps.toList = [48, 49, 50, 51, 52, 53, 54, 55, 56, 57] := by decide +kernel
  rw [e]
  unfold dig
  by_cases h : 48 ≤ c ∧ c ≤ 57
  · rw [decide_eq_true h, decide_eq_true]
    simp only [List.mem_cons, List.not_mem_nil, or_false]
    omega
  · rw [decide_eq_false h, decide_eq_false]
    simp only [List.mem_cons, List.not_mem_nil, or_false]
    omega
theorem find_one (c : Nat) : findS (("0123456789" : String) : Str) ⟨#[c]⟩ = if dig c = true then ((c - 48 : Nat) : Int) else -1 := by
  by_cases h : 48 ≤ c ∧ c ≤ 57
  · have hd : dig c = true := decide_eq_true h
    rw [if_pos hd]
    rcases (show c = 48 ∨ c = 49 ∨ c = 50 ∨ c = 51 ∨ c = 52 ∨ c = 53 ∨ c = 54 ∨ c = 55 ∨ c = 56 ∨ c = 57 by omega) with rfl | rfl | rfl | rfl | rfl | rfl | rfl | rfl | rfl | rfl <;> decide +kernel
  · have hd : dig c = false := decide_eq_false h
    rw [hd, if_neg Bool.false_ne_true]
    have := inS_one c
    rw [hd] at this
    unfold inS at this
    have e : Builtin.Str.occurrences (("0123456789" : String) : Str) ⟨#[c]⟩ 0 ((("0123456789" : String) : Str)).length 1 = [] := by
      cases q : Builtin.Str.occurrences (("0123456789" : String) : Str) ⟨#[c]⟩ 0 ((("0123456789" : String) : Str)).length 1 with
      | nil => rfl
      | cons a b => rw [q] at this; cases this
    unfold findS
    rw [e]
theorem str_nil (z : Str) : (z == (("" : String) : Str)) = decide (z.cps.toList = []) := by
  by_cases h : z.cps.toList = []
  · rw [decide_eq_true h]
    have : z = (("" : String) : Str) := str_ext (by rw [h]; decide +kernel)
    rw [this]; simp
  · rw [decide_eq_false h]
    refine beq_ne fun q => h ?_
    rw [q]; decide +kernel
theorem str_zero (z : Str) : (z == (("0" : String) : Str)) = decide (z.cps.toList = [48]) := by
  by_cases h : z.cps.toList = [48]
  · rw [decide_eq_true h]
    have : z = (("0" : String) : Str) := str_ext (by rw [h]; decide +kernel)
    rw [this]; simp
  · rw [decide_eq_false h]
    refine beq_ne fun q => h ?_
    rw [q]; decide +kernel
theorem head_test (z : Str) (hz : Fit z) {δ : List Sl} (h0 : δ[0]? = some (.sh (.str z))) : bOr (bB (op2 (oEq false) (fVar 0) (fC (.str (("" : String) : Str))))) (bAnd (bB (op2 (oEq false) (fIx (fVar 0) (fC (.int 0))) (fC (.str (("0" : String) : Str))))) (bB (op2 (oEq true) (fVar 0) (fC (.str (("0" : String) : Str)))))) δ = some (match z.cps.toList with | [] => true | c :: r => decide (c = 48) && decide (r ≠ [])) := by
  have hv : fVar 0 δ = some (.sh (.str z)) := by unfold fVar; rw [h0]
  have hl := hz.1
  have e1 : bB (op2 (oEq false) (fVar 0) (fC (.str (("" : String) : Str)))) δ = some (decide (z.cps.toList = [])) := by
    refine bB_of (dt_of (op2_of (dt_of hv) (dt_of rfl) (oEq_str false hz.ok ok_lit0)) ?_)
    rw [if_neg Bool.false_ne_true, str_nil]; rfl
  cases q : z.cps.toList with
  | nil => rw [q] at e1; exact or_t (by rw [e1]; rfl)
  | cons c r =>
    rw [q] at e1
    refine or_f (by rw [e1]; rfl) ?_
    have hc := hz.2 c (by rw [q]; exact List.mem_cons_self)
    have hx : ixD (.str z) 0 = some (.str ⟨#[c]⟩) := by
      show (if _ then _ else _) = _
      have ea : atI (c :: r) 0 = some c := atI_nat (j := 0) rfl
      rw [if_pos (by rw [line24]; omega), q, ea]; rfl
    have okc : okEq (.str ⟨#[c]⟩) = true := okEq_str fun d hd => by
      have : d = c := by simpa using hd
      rw [this]; exact hc
    have e2 : bB (op2 (oEq false) (fIx (fVar 0) (fC (.int 0))) (fC (.str (("0" : String) : Str)))) δ = some (decide (c = 48)) := by
      refine bB_of (dt_of (op2_of (dt_of (ix_of (dt_of hv) (dt_of rfl) hx)) (dt_of rfl) (oEq_str false okc ok_lit1)) ?_)
      rw [if_neg Bool.false_ne_true, str_zero]
      show Dm.bl _ = Dm.bl _
      congr 1
      by_cases h : c = 48 <;> simp [h]
    have e3 : bB (op2 (oEq true) (fVar 0) (fC (.str (("0" : String) : Str)))) δ = some (!decide (c :: r = [48])) := by
      refine bB_of (dt_of (op2_of (dt_of hv) (dt_of rfl) (oEq_str true hz.ok ok_lit1)) ?_)
      rw [if_pos rfl, str_zero, q]; rfl
    rw [bAndV e2 e3]
    by_cases h : c = 48
    · subst h
      by_cases hr : r = [] <;> simp [hr]
    · simp [h]
theorem is_number_gen (z : Str) (hz : Fit z) : F_is_number [.str z] = some (.sh (.bl (isNum z.cps.toList))) := by
  have ht := head_test z hz (δ := [.sh (.str z)]) rfl
  have hl := hz.1
  cases q : z.cps.toList with
  | nil => rw [q] at ht; exact body_rt (r := (Rs.sh (.bl false)).out) rfl rfl (seq_rt (if_t ht (ret_of rfl)))
  | cons c r =>
    rw [q] at ht
    cases hb : (decide (c = 48) && decide (r ≠ [])) with
    | true =>
      have ht' := ht
      simp only [hb] at ht'
      refine body_ret _ rfl rfl (seq_rt (if_t ht' (ret_of rfl))) ?_
      rw [isNum_cons, hb]; rfl
    | false =>
      have ht' := ht
      simp only [hb] at ht'
      refine body_rt (r := (Rs.sh (.bl (isNum (c :: r)))).out) rfl rfl (seq_nx (if_f ht' nil_nx) (ret_of (fB_of (rs := [.sh (.lst ((z.cps.toList.map dig).map Dm.bl))]) (evs_cons (r := .ow ((z.cps.toList.map dig).map Dm.bl)) (comp_of (ds := signs z) rfl ?_ ?_) evs_nil) ?_)))
      · unfold signs
        rw [List.length_map, Array.length_toList, line24]
        have : z.cps.size ≤ 400 := hl
        omega
      · rw [List.map_map]
        refine mapD_map (fun c => Dm.str ⟨#[c]⟩) _ fun c hc => ⟨_, rfl, .sh (.bl (dig c)), op2_of (dt_of rfl) (dt_of rfl) ?_, rfl⟩
        show some (Dm.bl (inS ⟨#[c]⟩ (("0123456789" : String) : Str))) = _
        rw [inS_one]
      · show ((bls? _).map _) = _
        rw [bls_of]
        show some (Dm.bl ((z.cps.toList.map dig).all id)) = _
        rw [List.all_map, q]
        rw [isNum_cons, hb]
        rfl
theorem number_loop (Z : Sl) : ∀ (l : List Nat) (n : Nat) (s2 s3 : Sl), ∃ δ', loopD (.nm 2) B__law_number_1 (l.map fun c => Dm.str ⟨#[c]⟩) [Z, .sh (.int n), s2, s3] = some (if l.all dig = true then .nx δ' else .rt (.sh (.int (-1)))) ∧ (l.all dig = true → δ'[1]? = some (.sh (.int (l.foldl (fun n c => 10 * n + (c - 48)) n : Nat))))
  | [], n, s2, s3 => ⟨[Z, .sh (.int n), s2, s3], rfl, fun _ => rfl⟩
  | c :: l, n, s2, s3 => by
    have hf : ∀ {s3 : Sl}, fM oFind (fC (.str (("0123456789" : String) : Str))) [fVar 2] [Z, .sh (.int n), .sh (.str ⟨#[c]⟩), s3] = some (.sh (.int (findS (("0123456789" : String) : Str) ⟨#[c]⟩))) := fun {s3} => fM_of (rs := [.sh (.str ⟨#[c]⟩)]) (dt_of rfl) rfl rfl
    rw [List.map_cons, List.all_cons]
    cases hd : dig c with
    | false =>
      have e := find_one c
      rw [hd, if_neg Bool.false_ne_true] at e
      refine ⟨[], ?_, fun h => by simp at h⟩
      rw [Bool.false_and, if_neg Bool.false_ne_true]
      show (setT (.nm 2) (.str ⟨#[c]⟩) [Z, .sh (.int n), s2, s3]).bind _ = _
      show (B__law_number_1 [Z, .sh (.int n), .sh (.str ⟨#[c]⟩), s3]).bind _ = _
      have hb : B__law_number_1 [Z, .sh (.int n), .sh (.str ⟨#[c]⟩), s3] = some (.rt (.sh (.int (-1)))) := by
        refine seq_nx (δ' := [Z, .sh (.int n), .sh (.str ⟨#[c]⟩), .sh (.int (-1))]) ?_ (seq_rt (if_t (bB_of (b := true) (dt_of (op2_of (a := .int (-1)) (b := .int 0) (d := .bl true) (dt_of rfl) (dt_of rfl) (by simp [oLt])))) (ret_of (r := .sh (.int (-1))) (neg_of (dt_of rfl)))))
        have := hf (s3 := s3)
        rw [e] at this
        first
          | exact set_fz (r := .sh (.int (-1))) this rfl
          | exact set_sh this
      rw [hb]; rfl
    | true =>
      have e := find_one c
      rw [hd, if_pos rfl] at e
      obtain ⟨δ', e2, e3⟩ := number_loop Z l (10 * n + (c - 48)) (.sh (.str ⟨#[c]⟩)) (.sh (.int (c - 48 : Nat)))
      refine ⟨δ', ?_, fun h => ?_⟩
      · rw [Bool.true_and]
        refine loop_cons (δ1 := [Z, .sh (.int n), .sh (.str ⟨#[c]⟩), s3]) (δ2 := [Z, .sh (.int (10 * n + (c - 48) : Nat)), .sh (.str ⟨#[c]⟩), .sh (.int (c - 48 : Nat))]) rfl ?_ e2
        refine seq_nx (δ' := [Z, .sh (.int n), .sh (.str ⟨#[c]⟩), .sh (.int (c - 48 : Nat))]) ?_ (seq_nx (if_f (ltN (a := c - 48) (b := 0) (dt_of rfl) (dt_of rfl) (by simp)) nil_nx) (set_sh (addN (a := 10 * n) (b := c - 48) (dt_of (mulN (a := 10) (b := n) (dt_of rfl) (dt_of rfl) (by decide))) (dt_of rfl))))
        have := hf (s3 := s3)
        rw [e] at this
        first
          | exact set_fz (r := .sh (.int (c - 48 : Nat))) this rfl
          | exact set_sh this
      · rw [Bool.true_and] at h
        exact e3 h
theorem law_number_gen (z : Str) (hz : Fit z) : F__law_number [.str z] = some (.sh (.int (if isNum z.cps.toList = true then (valL z.cps.toList : Int) else -1))) := by
  have ht := head_test z hz (δ := [.sh (.str z), .un, .un, .un]) rfl
  cases q : z.cps.toList with
  | nil => rw [q] at ht; exact body_rt (r := (Rs.sh (.int (-1))).out) rfl rfl (seq_rt (if_t ht (ret_of (neg_of (dt_of rfl)))))
  | cons c r =>
    rw [q] at ht
    cases hb : (decide (c = 48) && decide (r ≠ [])) with
    | true =>
      simp only [hb] at ht
      refine body_ret _ rfl rfl (seq_rt (if_t ht (ret_of (neg_of (dt_of rfl))))) ?_
      rw [isNum_cons, hb]; rfl
    | false =>
      simp only [hb] at ht
      obtain ⟨δ', e, e3⟩ := number_loop (.sh (.str z)) z.cps.toList 0 .un .un
      have hi : isNum (c :: r) = (c :: r).all dig := by rw [isNum_cons, hb]; rfl
      rw [hi]
      rw [q] at e e3
      cases hall : (c :: r).all dig with
      | true =>
        rw [hall, if_pos rfl] at e
        rw [if_pos rfl]
        exact body_rt (r := (Rs.sh (.int (valL (c :: r) : Int))).out) rfl rfl (seq_nx (if_f ht nil_nx) (seq_nx (set_sh (d := .int (0 : Nat)) rfl) (seq_nx (for_of (ds := (c :: r).map fun c => Dm.str ⟨#[c]⟩) (iS_of (r := .sh (.str z)) rfl (by show some (signs z) = _; unfold signs; rw [q])) e) (ret_of (r := .sh (.int (valL (c :: r) : Int))) (by unfold fVar; rw [e3 hall]; rfl)))))
      | false =>
        rw [hall, if_neg Bool.false_ne_true] at e
        rw [if_neg Bool.false_ne_true]
        exact body_rt (r := .sh (.int (-1))) rfl rfl (seq_nx (if_f ht nil_nx) (seq_nx (set_sh (d := .int (0 : Nat)) rfl) (seq_rt (for_of (ds := (c :: r).map fun c => Dm.str ⟨#[c]⟩) (iS_of (r := .sh (.str z)) rfl (by show some (signs z) = _; unfold signs; rw [q])) e))))
end LW
set_option Elab.async false
set_option linter.all false
set_option maxRecDepth 100000
set_option maxHeartbeats 4000000
namespace LW
open PySem L2 BF
set_option linter.unusedSimpArgs false
theorem len_app (a b : Str) : (a ++ b).length = a.length + b.length := by
  show (a.cps ++ b.cps).size = _
  rw [Array.size_append]; rfl
theorem log_small {n : Nat} (h : n < 10 ^ 20) : ((n : Int)).natAbs.log2 < 1920 := by
  rw [Int.natAbs_natCast]
  by_cases h0 : n = 0
  · subst h0; decide
  · have : n.log2 < 67 := (Nat.log2_lt h0).mpr (by omega)
    omega
theorem str_part (n : Nat) (h : n < 10 ^ 20) : oStr [.int (n : Int)] = some (.str (strI (n : Int))) := by
  show (if _ then _ else _) = _
  rw [if_pos (log_small h)]
theorem val_digits (l : List Nat) : NumText.digitsVal l = valL l := by
  unfold NumText.digitsVal valL
  congr 1
  funext n c
  omega
theorem foldl_ge : ∀ (l : List Nat) (n : Nat), n * 10 ^ l.length ≤ l.foldl (fun n c => 10 * n + (c - 48)) n
  | [], n => by simp
  | c :: l, n => by
    rw [List.foldl_cons, List.length_cons]
    have := foldl_ge l (10 * n + (c - 48))
    refine Nat.le_trans ?_ this
    rw [Nat.pow_succ, Nat.mul_comm (10 ^ l.length) 10, ← Nat.mul_assoc, Nat.mul_comm n 10]
    exact Nat.mul_le_mul_right _ (by omega)
theorem val_long {c : Nat} {r : List Nat} (h : isNum (c :: r) = true) (hr : r ≠ []) : 10 ^ r.length ≤ valL (c :: r) := by
  rw [isNum_cons, Bool.and_eq_true, List.all_cons, Bool.and_eq_true] at h
  have hd : 48 ≤ c ∧ c ≤ 57 := of_decide_eq_true h.2.1
  have hc : c ≠ 48 := fun z => by
    have := h.1
    rw [decide_eq_true z, decide_eq_true hr] at this
    cases this
  have := foldl_ge r (10 * 0 + (c - 48))
  unfold valL
  rw [List.foldl_cons]
  refine Nat.le_trans ?_ this
  have : 1 * 10 ^ r.length ≤ (10 * 0 + (c - 48)) * 10 ^ r.length := Nat.mul_le_mul_right _ (by omega)
  omega
theorem strI_bound (n : Nat) : n < 10 ^ (strI (n : Int)).length := by
  rw [strI_len]
  exact (Nat.length_toDigits_le_iff (by decide) Nat.length_toDigits_pos).mp (Nat.le_refl _)
theorem num_digits {l : List Nat} (h : isNum l = true) : NumText.AllDigits l ∧ l ≠ [] := by
  cases l with
  | nil => cases h
  | cons c r =>
    rw [isNum_cons, Bool.and_eq_true] at h
    exact ⟨fun d hd => of_decide_eq_true (List.all_eq_true.mp h.2 d hd), by simp⟩
theorem jn_step {f : EF} {fs : List EF} {δ : List Sl} {acc y : Str} (h : dt f δ = some (.str y)) (hl : acc.length + y.length ≤ sizeLine) : jn (f :: fs) δ acc = jn fs δ (acc ++ y) := by
  show (dt f δ).bind _ = _
  rw [h, Option.bind_some]
  show (if (acc ++ y).length ≤ sizeLine then _ else _) = _
  rw [if_pos (by rw [len_app]; exact hl)]
theorem rpr_of {f : EF} {δ : List Sl} {z : Str} (hz : Fit z) (h : dt f δ = some (.str z)) : dt (fRpr f) δ = some (.str (reprText z)) := by
  refine dt_of (r := .sh (.str (reprText z))) ?_
  unfold fRpr
  rw [h, Option.bind_some]
  show (if _ then _ else _) = _
  rw [if_pos (by have := hz.repr; rw [line24]; omega)]
theorem js_two {f : EF} {δ : List Sl} {z a : Str} (hz : Fit z) (h : dt f δ = some (.str z)) (ha : a.length ≤ 1000) : ∃ r, fJs [fC (.str a), fRpr f] δ = some r := by
  have l0 : Str.empty.length = 0 := rfl
  have l1 : (Str.empty ++ a).length = a.length := by rw [len_app, l0, Nat.zero_add]
  have hr := hz.repr
  unfold fJs
  rw [jn_step (y := a) (dt_of rfl) (by rw [l0, line24]; omega), jn_step (rpr_of hz h) (by rw [l1, line24]; omega)]
  show ∃ r, (some _).bind _ = some r
  rw [Option.bind_some, if_pos (by rw [len_app, l1, line24]; omega)]
  exact ⟨_, rfl⟩
theorem js_four {f g : EF} {δ : List Sl} {z a b : Str} {n : Nat} (hz : Fit z) (h : dt f δ = some (.str z)) (hg : dt g δ = some (.int (n : Int))) (hn : n < 10 ^ 20) (ha : a.length ≤ 1000) (hb : b.length ≤ 1000) : ∃ r, fJs [fC (.str a), fFmt g, fC (.str b), fRpr f] δ = some r := by
  have l0 : Str.empty.length = 0 := rfl
  have hr := hz.repr
  have hlog := log_small hn
  have hs := strI_short hn
  have ef : dt (fFmt g) δ = some (.str (toString (n : Int))) := by
    refine dt_of (r := .sh (.str (toString (n : Int)))) ?_
    unfold fFmt
    rw [hg, Option.bind_some]
    show (if _ then _ else _) = _
    rw [if_pos hlog]
  have hts : ((toString (n : Int) : String) : Str).length = (strI (n : Int)).length := rfl
  unfold fJs
  rw [jn_step (y := a) (dt_of rfl) (by rw [l0, line24]; omega), jn_step ef (by rw [len_app, l0, line24]; omega), jn_step (y := b) (dt_of rfl) (by rw [len_app, len_app, l0, line24]; omega), jn_step (rpr_of hz h) (by rw [len_app, len_app, len_app, l0, line24]; omega)]
  show ∃ r, (some _).bind _ = some r
  rw [Option.bind_some, if_pos (by rw [len_app, len_app, len_app, len_app, l0, line24]; omega)]
  exact ⟨_, rfl⟩
theorem len_str {z : Str} (h : z.length ≤ 10000) : oLen [.str z] = some (.int z.length) := by
  show (if z.length ≤ sizeLine then some (Dm.int z.length) else none) = _
  rw [if_pos (by rw [line24]; omega)]
theorem number_of_gen (z : Str) (most : Nat) (hz : Fit z) (hm : most < 10 ^ 20) : F_number_of [.str z, .int most] = some (if isNum z.cps.toList = true ∧ valL z.cps.toList ≤ most then .inl (.sh (.int (valL z.cps.toList : Int))) else .inr "NoDeed") := by
  have hi := is_number_gen z hz
  have zl : z.cps.toList.length = z.length := Array.length_toList
  cases hb : isNum z.cps.toList with
  | false =>
    rw [hb] at hi
    rw [if_neg (fun h => absurd h.1 Bool.false_ne_true)]
    obtain ⟨r, hr⟩ := js_two (δ := [.sh (.str z), .sh (.int most)]) (f := fVar 0) (a := (("no number: " : String) : Str)) hz (dt_of rfl) (by decide +kernel)
    exact bodyx_ex (δ := [.sh (.str z), .sh (.int most)]) rfl rfl (xseq_ex (xif_t (not_f (bB_of (dt_of (call_of (rs := [.sh (.str z)]) rfl hi rfl)))) (xraise_of hr)))
  | true =>
    rw [hb] at hi
    obtain ⟨hd, hne⟩ := num_digits hb
    have hint : oInt [.str z] = some (.int (valL z.cps.toList : Int)) := by
      show (if z.length ≤ 640 then (intText? z).map Dm.int else none) = _
      have := hz.1
      rw [if_pos (by omega), PySem.intText_digits hd hne (by omega), val_digits]
      rfl
    have eint : ∀ {δ : List Sl}, δ[0]? = some (.sh (.str z)) → fB oInt [fVar 0] δ = some (.sh (.int (valL z.cps.toList : Int))) := fun {δ} h => fB_of (rs := [.sh (.str z)]) (evs_cons (r := .sh (.str z)) (by unfold fVar; rw [h]) evs_nil) hint
    have test : (bOr (bB (op2 oGt (fB oLen [(fVar 0)]) (fB oLen [(fB oStr [(fVar 1)])]))) (bB (op2 oGt (fB oInt [(fVar 0)]) (fVar 1)))) [.sh (.str z), .sh (.int most)] = some (decide (most < valL z.cps.toList)) := by
      have t := bOrV (gtN (a := z.length) (b := (strI (most : Int)).length) (fa := fB oLen [fVar 0]) (fb := fB oLen [(fB oStr [(fVar 1)])]) (δ := [.sh (.str z), .sh (.int most)]) (dt_of (fB_of (rs := [.sh (.str z)]) (d := .int z.length) rfl (len_str (by have := hz.1; omega)))) (dt_of (fB_of (rs := [.sh (.str (strI (most : Int)))]) (d := .int (strI (most : Int)).length) (evs_cons (r := .sh (.str (strI (most : Int)))) (fB_of (rs := [.sh (.int most)]) rfl (str_part most hm)) evs_nil) (len_str (by have := strI_short hm; omega)))) rfl) (gtN (a := valL z.cps.toList) (b := most) (dt_of (eint rfl)) (fb := fVar 1) (dt_of rfl) rfl)
      rw [t]
      congr 1
      by_cases hlt : most < valL z.cps.toList
      · rw [decide_eq_true hlt, Bool.or_true]
      · rw [decide_eq_false hlt, Bool.or_false, decide_eq_false]
        intro hlong
        apply hlt
        have hb2 := strI_bound most
        have hpos : 1 ≤ (strI (most : Int)).length := by rw [strI_len]; exact Nat.length_toDigits_pos
        cases q : z.cps.toList with
        | nil => exact absurd q hne
        | cons c r =>
          rw [q] at hb zl
          rw [List.length_cons] at zl
          have hr : r ≠ [] := fun e => by rw [e] at zl; simp at zl; omega
          have h1 := val_long hb hr
          have h2 : 10 ^ (strI (most : Int)).length ≤ 10 ^ r.length := Nat.pow_le_pow_right (by decide) (by omega)
          omega
    by_cases hle : valL z.cps.toList ≤ most
    · rw [if_pos ⟨rfl, hle⟩]
      rw [decide_eq_false (by omega)] at test
      exact bodyx_rt (δ := [.sh (.str z), .sh (.int most)]) rfl rfl (xseq_nx (xif_f (not_t (bB_of (dt_of (call_of (rs := [.sh (.str z)]) rfl hi rfl)))) (xl_of nil_nx)) (xseq_nx (xif_f test (xl_of nil_nx)) (xl_of (ret_of (eint rfl)))))
    · rw [if_neg (fun h => hle h.2)]
      rw [decide_eq_true (by omega)] at test
      obtain ⟨r, hr⟩ := js_four (δ := [.sh (.str z), .sh (.int most)]) (f := fVar 0) (g := fVar 1) (a := (("beyond " : String) : Str)) (b := ((": " : String) : Str)) hz (dt_of rfl) (dt_of rfl) hm (by decide +kernel) (by decide +kernel)
      exact bodyx_ex (δ := [.sh (.str z), .sh (.int most)]) rfl rfl (xseq_nx (xif_f (not_t (bB_of (dt_of (call_of (rs := [.sh (.str z)]) rfl hi rfl)))) (xl_of nil_nx)) (xseq_ex (xif_t test (xraise_of hr))))
def bnd (w a : Nat) (nm : Str) : Option (List Nat) :=
  if nm = (("fix" : String) : Str) then some [2 ^ w - 1] else if nm = (("mask" : String) : Str) ∨ nm = (("turn" : String) : Str) then some [a, 2 ^ w - 1] else if nm = (("both" : String) : Str) then some [a, a] else if nm = (("up" : String) : Str) ∨ nm = (("down" : String) : Str) then some [a, w] else none
theorem beq_dec (a b : Str) : (a == b) = decide (a = b) := by
  by_cases h : a = b
  · subst h; simp
  · rw [decide_eq_false h]; exact beq_ne h
theorem in_tup (nm : Str) (ns : List Str) : oIn false (.str nm) (.tup (ns.map Dm.str)) = some (.bl (decide (nm ∈ ns))) := by
  have hs : (ns.map Dm.str).all Dm.scal = true := by rw [List.all_eq_true]; intro x hx; obtain ⟨v, _, rfl⟩ := List.mem_map.mp hx; rfl
  have hi : ∀ ns : List Str, inD (.str nm) (ns.map Dm.str) = decide (nm ∈ ns) := by
    intro ns
    induction ns with
    | nil => simp [inD, inV]
    | cons n ns ih =>
      have e : inD (.str nm) ((n :: ns).map Dm.str) = ((n == nm) || inD (.str nm) (ns.map Dm.str)) := rfl
      rw [e, ih, beq_dec]
      by_cases h : n = nm
      · subst h; simp
      · rw [decide_eq_false h, Bool.false_or]
        by_cases h2 : nm ∈ ns
        · rw [decide_eq_true h2, decide_eq_true (List.mem_cons_of_mem _ h2)]
        · rw [decide_eq_false h2, decide_eq_false]
          intro z
          rcases List.mem_cons.mp z with z | z
          · exact h z.symm
          · exact h2 z
  show (if (Dm.scal (.str nm) && (ns.map Dm.str).all Dm.scal) = true then some (Dm.bl (inD (.str nm) (ns.map Dm.str))) else none) = _
  rw [hs, hi]
  rfl
theorem lits : okEq (.str (("fix" : String) : Str)) = true ∧ okEq (.str (("both" : String) : Str)) = true := by refine ⟨?_, ?_⟩ <;> decide +kernel
theorem eqS {δ : List Sl} {f : EF} {nm a : Str} (hn : okEq (.str nm) = true) (ha : okEq (.str a) = true) (h : dt f δ = some (.str nm)) : bB (op2 (oEq false) f (fC (.str a))) δ = some (decide (nm = a)) := by
  refine bB_of (dt_of (op2_of h (dt_of rfl) (oEq_str false hn ha)) ?_)
  rw [if_neg Bool.false_ne_true, beq_dec]; rfl
theorem inS2 {δ : List Sl} {f : EF} {nm a b : Str} (h : dt f δ = some (.str nm)) : bB (op2 (oIn false) f (fTup [fC (.str a), fC (.str b)])) δ = some (decide (nm ∈ [a, b])) :=
  bB_of (dt_of (op2_of (a := .str nm) (b := .tup ([a, b].map Dm.str)) h (dt_of (tup_of (rs := [.sh (.str a), .sh (.str b)]) rfl rfl (by rw [line24]; simp))) (in_tup nm [a, b])))
theorem bounds_gen (w a : Nat) (nm : Str) (hw : w ≤ 64) (hn : Fit nm) : F_bounds_of [.int w, .str nm, .int a] = some (match bnd w a nm with | some bs => .inl (.ow (nats bs)) | none => .inr "NoDeed") := by
  have e0 : gSet 3 (op2 oSub (op2 oShl (fC (.int 1)) (fVar 0)) (fC (.int 1))) [.sh (.int w), .sh (.str nm), .sh (.int a), .un] = some (.nx [.sh (.int w), .sh (.str nm), .sh (.int a), .sh (.int (2 ^ w - 1 : Nat))]) := set_sh (subN (a := 2 ^ w) (b := 1) (dt_of (shl1 (b := w) (dt_of rfl) (by omega))) (dt_of rfl) (Nat.two_pow_pos w))
  have l1 : fLst [(fVar 3)] [.sh (.int w), .sh (.str nm), .sh (.int a), .sh (.int (2 ^ w - 1 : Nat))] = some (.ow (nats [2 ^ w - 1])) := lst_of (rs := [.sh (.int (2 ^ w - 1 : Nat))]) rfl rfl (by rw [line24]; simp)
  have l2 : ∀ i j (x y : Nat), fVar i [.sh (.int w), .sh (.str nm), .sh (.int a), .sh (.int (2 ^ w - 1 : Nat))] = some (.sh (.int x)) → fVar j [.sh (.int w), .sh (.str nm), .sh (.int a), .sh (.int (2 ^ w - 1 : Nat))] = some (.sh (.int y)) → fLst [(fVar i), (fVar j)] [.sh (.int w), .sh (.str nm), .sh (.int a), .sh (.int (2 ^ w - 1 : Nat))] = some (.ow (nats [x, y])) := fun i j x y h1 h2 => lst_of (rs := [.sh (.int x), .sh (.int y)]) (evs_cons h1 (evs_cons h2 evs_nil)) rfl (by rw [line24]; simp)
  have t1 := eqS (δ := [.sh (.int w), .sh (.str nm), .sh (.int a), .sh (.int (2 ^ w - 1 : Nat))]) (f := fVar 1) hn.ok lits.1 (dt_of rfl)
  have t2 := inS2 (δ := [.sh (.int w), .sh (.str nm), .sh (.int a), .sh (.int (2 ^ w - 1 : Nat))]) (f := fVar 1) (nm := nm) (a := (("mask" : String) : Str)) (b := (("turn" : String) : Str)) (dt_of rfl)
  have t3 := eqS (δ := [.sh (.int w), .sh (.str nm), .sh (.int a), .sh (.int (2 ^ w - 1 : Nat))]) (f := fVar 1) hn.ok lits.2 (dt_of rfl)
  have t4 := inS2 (δ := [.sh (.int w), .sh (.str nm), .sh (.int a), .sh (.int (2 ^ w - 1 : Nat))]) (f := fVar 1) (nm := nm) (a := (("up" : String) : Str)) (b := (("down" : String) : Str)) (dt_of rfl)
  unfold bnd
  by_cases c1 : nm = (("fix" : String) : Str)
  · rw [if_pos c1]
    rw [decide_eq_true c1] at t1
    exact bodyx_rt rfl rfl (xseq_nx (xl_of e0) (xseq_rt (xl_of (if_t t1 (ret_of l1)))))
  rw [if_neg c1]
  rw [decide_eq_false c1] at t1
  by_cases c2 : nm = (("mask" : String) : Str) ∨ nm = (("turn" : String) : Str)
  · rw [if_pos c2]
    rw [decide_eq_true (by simpa using c2)] at t2
    exact bodyx_rt rfl rfl (xseq_nx (xl_of e0) (xseq_nx (xl_of (if_f t1 nil_nx)) (xseq_rt (xl_of (if_t t2 (ret_of (l2 2 3 a (2 ^ w - 1) rfl rfl)))))))
  rw [if_neg c2]
  rw [decide_eq_false (by simpa using c2)] at t2
  by_cases c3 : nm = (("both" : String) : Str)
  · rw [if_pos c3]
    rw [decide_eq_true c3] at t3
    exact bodyx_rt rfl rfl (xseq_nx (xl_of e0) (xseq_nx (xl_of (if_f t1 nil_nx)) (xseq_nx (xl_of (if_f t2 nil_nx)) (xseq_rt (xl_of (if_t t3 (ret_of (l2 2 2 a a rfl rfl))))))))
  rw [if_neg c3]
  rw [decide_eq_false c3] at t3
  by_cases c4 : nm = (("up" : String) : Str) ∨ nm = (("down" : String) : Str)
  · rw [if_pos c4]
    rw [decide_eq_true (by simpa using c4)] at t4
    exact bodyx_rt rfl rfl (xseq_nx (xl_of e0) (xseq_nx (xl_of (if_f t1 nil_nx)) (xseq_nx (xl_of (if_f t2 nil_nx)) (xseq_nx (xl_of (if_f t3 nil_nx)) (xseq_rt (xl_of (if_t t4 (ret_of (l2 2 0 a w rfl rfl)))))))))
  rw [if_neg c4]
  rw [decide_eq_false (by simpa using c4)] at t4
  obtain ⟨r, hr⟩ := js_two (δ := [.sh (.int w), .sh (.str nm), .sh (.int a), .sh (.int (2 ^ w - 1 : Nat))]) (f := fVar 1) (a := (("no deed is called " : String) : Str)) hn (dt_of rfl) (by decide +kernel)
  exact bodyx_ex rfl rfl (xseq_nx (xl_of e0) (xseq_nx (xl_of (if_f t1 nil_nx)) (xseq_nx (xl_of (if_f t2 nil_nx)) (xseq_nx (xl_of (if_f t3 nil_nx)) (xseq_nx (xl_of (if_f t4 nil_nx)) (xraise_of hr))))))
end LW
set_option Elab.async false
set_option linter.all false
set_option maxRecDepth 100000
set_option maxHeartbeats 4000000
namespace LW
open PySem L2 BF
set_option linter.unusedSimpArgs false
theorem nats_cons (p : Nat) (ps : List Nat) : nats (p :: ps) = .int (p : Int) :: nats ps := rfl
theorem part_of_join (s : Str) : ∀ (ps : List Str) (p : Str), p ∈ ps → p.length ≤ (Str.join s ps).length ∧ ∀ c ∈ p.cps.toList, c ∈ (Str.join s ps).cps.toList
  | [], _, h => by cases h
  | [x], p, h => by
    have : p = x := by simpa using h
    subst this
    exact ⟨Nat.le_refl _, fun c hc => hc⟩
  | x :: y :: r, p, h => by
    have ih := part_of_join s (y :: r)
    have e := join_cons s x y r
    have el : (Str.join s (x :: y :: r)).length = x.length + (s.length + (Str.join s (y :: r)).length) := by
      have := congrArg List.length e
      rw [List.length_append, List.length_append, Array.length_toList, Array.length_toList, Array.length_toList, Array.length_toList] at this
      exact this
    rcases List.mem_cons.mp h with rfl | h
    · exact ⟨by omega, fun c hc => by rw [e]; exact List.mem_append_left _ hc⟩
    · obtain ⟨a, b⟩ := ih p h
      exact ⟨by omega, fun c hc => by rw [e]; exact List.mem_append_right _ (List.mem_append_right _ (b c hc))⟩
theorem words_fit {z : Str} (hz : Fit z) : ∀ p ∈ Txt.split z ((" " : String) : Str), Fit p := fun p hp => by
  obtain ⟨a, b⟩ := part_of_join ((" " : String) : Str) _ p hp
  rw [StrLaws.join_split] at a b
  exact ⟨Nat.le_trans a hz.1, fun c hc => hz.2 c (b c hc)⟩
theorem parts_count {z : Str} (hz : Fit z) : (Txt.split z ((" " : String) : Str)).length ≤ 401 := by
  have e := StrLaws.join_split z ((" " : String) : Str)
  have key : ∀ ps : List Str, ps.length ≤ (Str.join ((" " : String) : Str) ps).length + 1 := by
    intro ps
    induction ps with
    | nil => simp
    | cons x ps ih =>
      cases ps with
      | nil => simp
      | cons y r =>
        have el : (Str.join ((" " : String) : Str) (x :: y :: r)).length = x.length + (1 + (Str.join ((" " : String) : Str) (y :: r)).length) := by
          have := congrArg List.length (join_cons ((" " : String) : Str) x y r)
          rw [List.length_append, List.length_append, Array.length_toList, Array.length_toList, Array.length_toList, Array.length_toList] at this
          exact this
        rw [List.length_cons]
        omega
  have := key (Txt.split z ((" " : String) : Str))
  rw [e] at this
  have := hz.1
  omega
def okPairs : List Str → List Nat → Bool
  | [], [] => true
  | z :: zs, b :: bs => (isNum z.cps.toList && decide (valL z.cps.toList ≤ b)) && okPairs zs bs
  | _, _ => false
def okLine (w a : Nat) (z : Str) : Bool := match Txt.split z ((" " : String) : Str) with
  | [] => false
  | nm :: ws => match bnd w a nm with
    | none => false
    | some bs => okPairs ws bs
theorem okLine_none {w a : Nat} {z nm : Str} {ws : List Str} (q : Txt.split z ((" " : String) : Str) = nm :: ws) (hb : bnd w a nm = none) : okLine w a z = false := by
  unfold okLine; rw [q]; show (match bnd w a nm with | none => false | some bs => okPairs ws bs) = _; rw [hb]
theorem okLine_some {w a : Nat} {z nm : Str} {ws : List Str} {bs : List Nat} (q : Txt.split z ((" " : String) : Str) = nm :: ws) (hb : bnd w a nm = some bs) : okLine w a z = okPairs ws bs := by
  unfold okLine; rw [q]; show (match bnd w a nm with | none => false | some bs => okPairs ws bs) = _; rw [hb]
theorem okPairs_len : ∀ {zs : List Str} {bs : List Nat}, okPairs zs bs = true → zs.length = bs.length
  | [], [], _ => rfl
  | _ :: zs, _ :: bs, h => by
    rw [okPairs, Bool.and_eq_true] at h
    rw [List.length_cons, List.length_cons, okPairs_len h.2]
  | [], _ :: _, h => by cases h
  | _ :: _, [], h => by cases h
theorem mapX_nums (δ : List Sl) (hδ : 2 ≤ δ.length) : ∀ (zs : List Str) (bs : List Nat), zs.length = bs.length → (∀ z ∈ zs, Fit z) → (∀ b ∈ bs, b < 10 ^ 20) → ∃ o, mapX (.tp [0, 1]) (fCallX F_number_of [(fVar 0), (fVar 1)]) δ (zipD (zs.map .str) (nats bs)) = some o ∧ (match o with | .inl ys => okPairs zs bs = true ∧ ys.length = zs.length | .inr c => okPairs zs bs = false ∧ c = "NoDeed")
  | [], [], _, _, _ => ⟨.inl [], rfl, rfl, rfl⟩
  | [], _ :: _, h, _, _ => by simp at h
  | _ :: _, [], h, _, _ => by simp at h
  | z :: zs, b :: bs, h, hz, hb => by
    obtain ⟨o, eo, ho⟩ := mapX_nums δ hδ zs bs (by simpa using h) (fun x hx => hz x (List.mem_cons_of_mem _ hx)) (fun x hx => hb x (List.mem_cons_of_mem _ hx))
    have hn := number_of_gen z b (hz z List.mem_cons_self) (hb b List.mem_cons_self)
    obtain ⟨s0, s1, r, rfl⟩ : ∃ s0 s1 r, δ = s0 :: s1 :: r := by
      match δ, hδ with
      | s0 :: s1 :: r, _ => exact ⟨s0, s1, r, rfl⟩
    rw [List.map_cons, nats_cons, zipD]
    show ∃ o, ((fCallX F_number_of [(fVar 0), (fVar 1)] (.sh (.str z) :: .sh (.int b) :: r)).bind fun o => match o with
      | .inl y => if y.fz.isSh then (mapX (.tp [0, 1]) (fCallX F_number_of [(fVar 0), (fVar 1)]) (s0 :: s1 :: r) (zipD (zs.map .str) (nats bs))).map (cmb [y.dat]) else none
      | .inr c => some (.inr c)) = some o ∧ _
    rw [okPairs]
    by_cases hc : isNum z.cps.toList = true ∧ valL z.cps.toList ≤ b
    · rw [if_pos hc] at hn
      rw [callx_ok (rs := [.sh (.str z), .sh (.int b)]) rfl hn rfl, Option.bind_some, eo, hc.1, decide_eq_true hc.2, Bool.true_and, Bool.true_and]
      show ∃ o', (if (Rs.sh (Dm.int (valL z.cps.toList : Int))).fz.isSh = true then _ else _) = some o' ∧ _
      rw [if_pos (show (Rs.sh (Dm.int (valL z.cps.toList : Int))).fz.isSh = true from rfl)]
      cases o with
      | inl ys => exact ⟨_, rfl, ho.1, by show (_ :: ys).length = _; rw [List.length_cons, List.length_cons, ho.2]⟩
      | inr c => exact ⟨_, rfl, ho⟩
    · rw [if_neg hc] at hn
      rw [callx_ex (rs := [.sh (.str z), .sh (.int b)]) rfl hn, Option.bind_some]
      refine ⟨.inr "NoDeed", rfl, ?_, rfl⟩
      rw [Bool.and_eq_false_iff]
      left
      rw [Bool.and_eq_false_iff]
      by_cases h1 : isNum z.cps.toList = true
      · right
        exact decide_eq_false fun h2 => hc ⟨h1, h2⟩
      · left
        simpa using h1
theorem bnd_lt {w a : Nat} (hw : w ≤ 64) (ha : a ≤ 1000) {nm : Str} {bs : List Nat} (h : bnd w a nm = some bs) : (∀ b ∈ bs, b < 10 ^ 20) ∧ bs.length ≤ 2 ∧ 1 ≤ bs.length := by
  have h2 : 2 ^ w ≤ 2 ^ 64 := Nat.pow_le_pow_right (by decide) hw
  have e64 : 2 ^ 64 = 18446744073709551616 := by decide
  have key : ∀ x y : Nat, x < 10 ^ 20 → y < 10 ^ 20 → ∀ b ∈ [x, y], b < 10 ^ 20 := fun x y hx hy b hb => by
    rcases List.mem_cons.mp hb with rfl | hb
    · exact hx
    · rw [List.mem_singleton.mp hb]; exact hy
  unfold bnd at h
  split at h
  · cases h; exact ⟨fun b hb => by rw [List.mem_singleton.mp hb]; omega, by simp, by simp⟩
  · split at h
    · cases h; exact ⟨key _ _ (by omega) (by omega), by simp, by simp⟩
    · split at h
      · cases h; exact ⟨key _ _ (by omega) (by omega), by simp, by simp⟩
      · split at h
        · cases h; exact ⟨key _ _ (by omega) (by omega), by simp, by simp⟩
        · cases h
theorem deed_of_gen (w a : Nat) (z : Str) (hw : w ≤ 64) (ha : a ≤ 1000) (hz : Fit z) : ∃ o, F_deed_of [.int w, .str z, .int a] = some o ∧ (match o with | .inl r => okLine w a z = true ∧ ∃ d, r = .sh d | .inr c => okLine w a z = false ∧ c = "NoDeed") := by
  have hwf := words_fit hz
  have hpc := parts_count hz
  have hsp : fSplit (fVar 1) (fC (.str ((" " : String) : Str))) [.sh (.int w), .sh (.str z), .sh (.int a), .un, .un, .un] = some (.ow ((Txt.split z ((" " : String) : Str)).map .str)) := split_of (dt_of rfl) (dt_of rfl) (by decide +kernel) (by have := hz.1; rw [line24]; omega)
  cases q : Txt.split z ((" " : String) : Str) with
  | nil => exact absurd q (split_ne _ _)
  | cons nm ws =>
    rw [q] at hwf hsp hpc
    have hnm := hwf nm List.mem_cons_self
    have hws : ∀ p ∈ ws, Fit p := fun p hp => hwf p (List.mem_cons_of_mem _ hp)
    have hbg := bounds_gen w a nm hw hnm
    have e3 : gSet 3 (fz (fSplit (fVar 1) (fC (.str ((" " : String) : Str))))) [.sh (.int w), .sh (.str z), .sh (.int a), .un, .un, .un] = some (.nx [.sh (.int w), .sh (.str z), .sh (.int a), .sh (.lst (.str nm :: ws.map .str)), .un, .un]) := set_fz (r := .ow ((nm :: ws).map .str)) hsp rfl
    have hev : evs [(fVar 0), (fIx (fVar 3) (fC (.int 0))), (fVar 2)] [.sh (.int w), .sh (.str z), .sh (.int a), .sh (.lst (.str nm :: ws.map .str)), .un, .un] = some [.sh (.int w), .sh (.str nm), .sh (.int a)] := evs_cons (r := .sh (.int w)) rfl (evs_cons (r := .sh (.str nm)) (ix_of (a := .lst (.str nm :: ws.map .str)) (i := 0) (dt_of rfl) (dt_of rfl) (atI_nat (j := 0) rfl)) (evs_cons (r := .sh (.int a)) rfl evs_nil))
    cases hb : bnd w a nm with
    | none =>
      rw [hb] at hbg
      exact ⟨.inr "NoDeed", bodyx_ex rfl rfl (xseq_nx (xl_of e3) (xseq_ex (xset_ex (fzx_ex (callx_ex hev hbg))))), okLine_none q hb, rfl⟩
    | some bs =>
      rw [hb] at hbg
      obtain ⟨hblt, hbl2, hbl1⟩ := bnd_lt hw ha hb
      have e4 : xSet 4 (fzX (fCallX F_bounds_of [(fVar 0), (fIx (fVar 3) (fC (.int 0))), (fVar 2)])) [.sh (.int w), .sh (.str z), .sh (.int a), .sh (.lst (.str nm :: ws.map .str)), .un, .un] = some (.inl (.nx [.sh (.int w), .sh (.str z), .sh (.int a), .sh (.lst (.str nm :: ws.map .str)), .sh (.lst (nats bs)), .un])) := xset_ok (fzx_ok (callx_ok hev hbg rfl)) rfl
      have test : bB (op2 (oEq true) (fB oLen [(fVar 3)]) (op2 oAdd (fB oLen [(fVar 4)]) (fC (.int 1)))) [.sh (.int w), .sh (.str z), .sh (.int a), .sh (.lst (.str nm :: ws.map .str)), .sh (.lst (nats bs)), .un] = some (decide (ws.length + 1 ≠ bs.length + 1)) := neN (a := ws.length + 1) (b := bs.length + 1) (dt_of (fB_of (rs := [.sh (.lst (.str nm :: ws.map .str))]) (d := .int (ws.length + 1 : Nat)) rfl (by simp [oLen]))) (dt_of (addN (a := bs.length) (b := 1) (dt_of (fB_of (rs := [.sh (.lst (nats bs))]) (d := .int bs.length) rfl (by simp [oLen, nats]))) (dt_of rfl))) rfl
      by_cases hlen : ws.length = bs.length
      · rw [decide_eq_false (by omega)] at test
        obtain ⟨o, eo, ho⟩ := mapX_nums (subS [none, none, some 0, some 1, some 2, some 3, some 4, some 5] [.sh (.int w), .sh (.str z), .sh (.int a), .sh (.lst (.str nm :: ws.map .str)), .sh (.lst (nats bs)), .un]) (by unfold subS; simp) ws bs hlen hws hblt
        have hsrc : iZ (fSl (fVar 3) (pSome (fC (.int 1))) pNo) (fVar 4) [.sh (.int w), .sh (.str z), .sh (.int a), .sh (.lst (.str nm :: ws.map .str)), .sh (.lst (nats bs)), .un] = some (zipD (ws.map .str) (nats bs)) := iZ_of (r := .ow (ws.map .str)) (q := .sh (.lst (nats bs))) (sl_tail_l (x := .str nm) (dt_of rfl)) rfl rfl rfl
        have zl : (zipD (ws.map Dm.str) (nats bs)).length ≤ sizeLine := by
          have : ∀ (xs ys : List Dm), (zipD xs ys).length ≤ xs.length := by
            intro xs
            induction xs with
            | nil => intro ys; simp [zipD]
            | cons x xs ih =>
              intro ys
              cases ys with
              | nil => simp [zipD]
              | cons y ys => rw [zipD, List.length_cons, List.length_cons]; have := ih ys; omega
          have h1 := this (ws.map Dm.str) (nats bs)
          rw [List.length_map] at h1
          rw [line24]; omega
        have hx : xComp (iZ (fSl (fVar 3) (pSome (fC (.int 1))) pNo) (fVar 4)) (.tp [0, 1]) [none, none, some 0, some 1, some 2, some 3, some 4, some 5] (fCallX F_number_of [(fVar 0), (fVar 1)]) [.sh (.int w), .sh (.str z), .sh (.int a), .sh (.lst (.str nm :: ws.map .str)), .sh (.lst (nats bs)), .un] = some (oOw o) := by
          unfold xComp
          rw [hsrc, Option.bind_some, if_pos zl, eo]
          rfl
        cases o with
        | inr c =>
          obtain ⟨h1, rfl⟩ := ho
          exact ⟨.inr "NoDeed", bodyx_ex rfl rfl (xseq_nx (xl_of e3) (xseq_nx e4 (xseq_nx (xif_f test (xl_of nil_nx)) (xseq_ex (xset_ex (fzx_ex hx)))))), by rw [okLine_some q hb]; exact h1, rfl⟩
        | inl ys =>
          refine ⟨.inl (.sh (.tup (.str nm :: ys))), bodyx_rt (r := (Rs.sh (.tup (.str nm :: ys))).out) rfl rfl (xseq_nx (xl_of e3) (xseq_nx e4 (xseq_nx (xif_f test (xl_of nil_nx)) (xseq_nx (xset_ok (r := (Rs.ow ys).fz) (fzx_ok hx) rfl) (xl_of (ret_of ?_)))))), by rw [okLine_some q hb]; exact ho.1, _, rfl⟩
          have hcat : fCat (fLst [(fIx (fVar 3) (fC (.int 0)))]) (fVar 5) [.sh (.int w), .sh (.str z), .sh (.int a), .sh (.lst (.str nm :: ws.map .str)), .sh (.lst (nats bs)), .sh (.lst ys)] = some (.ow ([.str nm] ++ ys)) := cat_of (xs := [.str nm]) (dt_of (lst_of (rs := [.sh (.str nm)]) (evs_cons (r := .sh (.str nm)) (ix_of (a := .lst (.str nm :: ws.map .str)) (i := 0) (dt_of rfl) (dt_of rfl) (atI_nat (j := 0) rfl)) evs_nil) rfl (by rw [line24]; simp))) (dt_of rfl) (by have := ho.2; rw [line24]; simp; omega)
          show fTuple _ [.sh (.int w), .sh (.str z), .sh (.int a), .sh (.lst (.str nm :: ws.map .str)), .sh (.lst (nats bs)), .sh (.lst ys)] = _
          unfold fTuple
          rw [fz_some hcat]
          rfl
      · rw [decide_eq_true (by omega)] at test
        obtain ⟨r, hr⟩ := js_two (δ := [.sh (.int w), .sh (.str z), .sh (.int a), .sh (.lst (.str nm :: ws.map .str)), .sh (.lst (nats bs)), .un]) (f := fVar 1) (a := (("too few or too many numbers: " : String) : Str)) hz (dt_of rfl) (by decide +kernel)
        refine ⟨.inr "NoDeed", bodyx_ex rfl rfl (xseq_nx (xl_of e3) (xseq_nx e4 (xseq_ex (xif_t test (xraise_of hr))))), ?_, rfl⟩
        rw [okLine_some q hb]
        cases hok : okPairs ws bs with
        | false => rfl
        | true => exact absurd (okPairs_len hok) hlen
def okFrom (w : Nat) : Nat → List Str → Bool
  | _, [] => true
  | a, z :: zs => okLine w a z && okFrom w (a + 1) zs
theorem read_loop (w : Nat) (hw : w ≤ 64) (S1 : Sl) : ∀ (zs : List Str) (ds : List Dm) (s3 : Sl), (∀ z ∈ zs, Fit z) → ds.length + zs.length ≤ 500 → ∃ o, loopX (.nm 3) B_read_1 (zs.map .str) [.sh (.int w), S1, .ow ds, s3] = some o ∧ (match o with | .inl fl => okFrom w ds.length zs = true ∧ ∃ es t3, fl = .nx [.sh (.int w), S1, .ow es, t3] ∧ es.length = ds.length + zs.length | .inr c => okFrom w ds.length zs = false ∧ c = "NoDeed")
  | [], ds, s3, _, _ => ⟨_, rfl, rfl, ds, s3, rfl, rfl⟩
  | z :: zs, ds, s3, hz, hl => by
    rw [List.length_cons] at hl
    obtain ⟨o, eo, ho⟩ := deed_of_gen w ds.length z hw (by omega) (hz z List.mem_cons_self)
    have hev : evs [(fVar 0), (fVar 3), (fB oLen [(fVar 2)])] [.sh (.int w), S1, .ow ds, .sh (.str z)] = some [.sh (.int w), .sh (.str z), .sh (.int ds.length)] := evs_cons (r := .sh (.int w)) rfl (evs_cons (r := .sh (.str z)) rfl (evs_cons (r := .sh (.int ds.length)) (fB_of (rs := [.al 2 ds]) (d := .int ds.length) rfl (by simp [oLen])) evs_nil))
    rw [List.map_cons, okFrom]
    cases o with
    | inr c =>
      obtain ⟨h1, rfl⟩ := ho
      refine ⟨.inr "NoDeed", ?_, by rw [h1]; rfl, rfl⟩
      show (B_read_1 [.sh (.int w), S1, .ow ds, .sh (.str z)]).bind _ = _
      have hb : B_read_1 [.sh (.int w), S1, .ow ds, .sh (.str z)] = some (.inr "NoDeed") := by
        show xApp 2 _ _ = _
        unfold xApp own?
        show (fCallX F_deed_of [(fVar 0), (fVar 3), (fB oLen [(fVar 2)])] [.sh (.int w), S1, .ow ds, .sh (.str z)]).bind _ = _
        rw [callx_ex hev eo]; rfl
      rw [hb]; rfl
    | inl r =>
      obtain ⟨h1, d, rfl⟩ := ho
      obtain ⟨o, e2, ho2⟩ := read_loop w hw S1 zs (ds ++ [d]) (.sh (.str z)) (fun x hx => hz x (List.mem_cons_of_mem _ hx)) (by rw [List.length_append, List.length_singleton]; omega)
      rw [List.length_append, List.length_singleton] at ho2
      rw [h1, Bool.true_and]
      refine ⟨o, ?_, ?_⟩
      · show (B_read_1 [.sh (.int w), S1, .ow ds, .sh (.str z)]).bind _ = _
        have hb : B_read_1 [.sh (.int w), S1, .ow ds, .sh (.str z)] = some (.inl (.nx [.sh (.int w), S1, .ow (ds ++ [d]), .sh (.str z)])) := by
          show xApp 2 _ _ = _
          unfold xApp own?
          show (fCallX F_deed_of [(fVar 0), (fVar 3), (fB oLen [(fVar 2)])] [.sh (.int w), S1, .ow ds, .sh (.str z)]).bind _ = _
          rw [callx_ok hev eo rfl]
          show (if _ then _ else _) = _
          rw [if_pos (by show (true && decide _) = true; rw [decide_eq_true (by rw [line24]; omega)]; rfl)]
          rfl
        rw [hb]
        exact e2
      · cases o with
        | inr c => exact ho2
        | inl fl =>
          obtain ⟨a1, es, t3, a2, a3⟩ := ho2
          exact ⟨a1, es, t3, a2, by rw [a3, List.length_cons]; omega⟩
theorem read_gen (w : Nat) (hw : w ≤ 64) (zs : List Str) (hz : ∀ z ∈ zs, Fit z) (hl : zs.length ≤ 400) : ∃ o, F_read [.int w, .lst (zs.map .str)] = some o ∧ (match o with | .inl r => okFrom w 0 zs = true ∧ ∃ es, r = .ow es ∧ es.length = zs.length | .inr c => okFrom w 0 zs = false ∧ c = "NoDeed") := by
  obtain ⟨o, eo, ho⟩ := read_loop w hw (.sh (.lst (zs.map .str))) zs [] .un hz (by simp; omega)
  have hsrc : iS (fVar 1) [.sh (.int w), .sh (.lst (zs.map .str)), .ow [], .un] = some (zs.map .str) := iS_of (r := .sh (.lst (zs.map .str))) rfl rfl
  have hf : xFor (iS (fVar 1)) (.nm 3) B_read_1 [.sh (.int w), .sh (.lst (zs.map .str)), .ow [], .un] = some o := by unfold xFor; rw [hsrc]; exact eo
  cases o with
  | inr c => exact ⟨.inr c, bodyx_ex rfl rfl (xseq_nx (xl_of (set_ow (d := []) rfl)) (xseq_ex hf)), ho⟩
  | inl fl =>
    obtain ⟨a1, es, t3, rfl, a3⟩ := ho
    exact ⟨.inl (.ow es), bodyx_rt rfl rfl (xseq_nx (xl_of (set_ow (d := []) rfl)) (xseq_nx hf (xl_of (ret_of (r := .al 2 es) rfl)))), a1, es, rfl, by simpa using a3⟩
end LW
set_option Elab.async false
set_option linter.all false
set_option maxRecDepth 100000
set_option maxHeartbeats 4000000
namespace LW
open PySem L2 BF
set_option linter.unusedSimpArgs false
def numI (z : Str) : Int := if isNum z.cps.toList = true then (valL z.cps.toList : Int) else -1
theorem numI_neg (z : Str) : numI z < 0 ↔ isNum z.cps.toList = false := by
  unfold numI
  cases isNum z.cps.toList with
  | true => simp
  | false => simp
theorem min_nums {ws : List Str} (h : ws ≠ []) : ∃ M, minI (ws.map numI) = some M ∧ (decide (M < 0) = !(ws.all fun z => isNum z.cps.toList)) := by
  cases q : minI (ws.map numI) with
  | none =>
    cases ws with
    | nil => exact absurd rfl h
    | cons z zs => cases q
  | some M =>
    obtain ⟨m1, m2⟩ := minI_some q
    refine ⟨M, rfl, ?_⟩
    cases ha : ws.all fun z => isNum z.cps.toList with
    | true =>
      rw [decide_eq_false]; rfl
      intro hM
      obtain ⟨z, hz, e⟩ := List.mem_map.mp m1
      have := (numI_neg z).mp (by rw [e]; exact hM)
      have h2 := List.all_eq_true.mp ha z hz
      rw [this] at h2; cases h2
    | false =>
      rw [decide_eq_true]; rfl
      have : ¬ ∀ z ∈ ws, isNum z.cps.toList = true := fun hall => by rw [List.all_eq_true.mpr hall] at ha; cases ha
      obtain ⟨z, hz, hn⟩ : ∃ z, z ∈ ws ∧ isNum z.cps.toList = false := by
        apply Classical.byContradiction
        intro hne
        apply this
        intro z hz
        cases q2 : isNum z.cps.toList with
        | true => rfl
        | false => exact absurd ⟨z, hz, q2⟩ hne
      have := m2 (numI z) (List.mem_map_of_mem hz)
      have := (numI_neg z).mpr hn
      omega
theorem okPairs_num : ∀ {zs : List Str} {bs : List Nat}, okPairs zs bs = true → (zs.all fun z => isNum z.cps.toList) = true
  | [], [], _ => rfl
  | z :: zs, b :: bs, h => by
    rw [okPairs, Bool.and_eq_true, Bool.and_eq_true] at h
    rw [List.all_cons, h.1.1, okPairs_num h.2]; rfl
  | [], _ :: _, h => by cases h
  | _ :: _, [], h => by cases h
theorem both_in : (("both" : String) : Str) ∉ [(("mask" : String) : Str), (("turn" : String) : Str)] := by decide +kernel
theorem fine_line (w a : Nat) (z : Str) (hw : w ≤ 64) (ha : a ≤ 1000) (hz : Fit z) (L s4 s5 s6 : Sl) : ∃ t4 t5 t6, B__law_fine_1 [.sh (.int w), L, .sh (.int a), .sh (.str z), s4, s5, s6] = some (if okLine w a z = true then .nx [.sh (.int w), L, .sh (.int a), .sh (.str z), t4, t5, t6] else .rt (.sh (.bl false))) := by
  have hwf := words_fit hz
  have hpc := parts_count hz
  have hsp : fSplit (fVar 3) (fC (.str ((" " : String) : Str))) [.sh (.int w), L, .sh (.int a), .sh (.str z), s4, s5, s6] = some (.ow ((Txt.split z ((" " : String) : Str)).map .str)) := split_of (dt_of rfl) (dt_of rfl) (by decide +kernel) (by have := hz.1; rw [line24]; omega)
  cases q : Txt.split z ((" " : String) : Str) with
  | nil => exact absurd q (split_ne _ _)
  | cons nm ws =>
    rw [q] at hwf hsp hpc
    rw [List.length_cons] at hpc
    have hnm := hwf nm List.mem_cons_self
    have hws : ∀ p ∈ ws, Fit p := fun p hp => hwf p (List.mem_cons_of_mem _ hp)
    have e4 : gSet 4 (fz (fSplit (fVar 3) (fC (.str ((" " : String) : Str))))) [.sh (.int w), L, .sh (.int a), .sh (.str z), s4, s5, s6] = some (.nx [.sh (.int w), L, .sh (.int a), .sh (.str z), .sh (.lst (.str nm :: ws.map .str)), s5, s6]) := set_fz (r := .ow ((nm :: ws).map .str)) hsp rfl
    have e5 : gSet 5 (fz (fComp (iL (fSl (fVar 4) (pSome (fC (.int 1))) pNo)) (.nm 0) [none, some 0, some 1, some 2, some 3, some 4, some 5, some 6] (fCall F__law_number [(fVar 0)]))) [.sh (.int w), L, .sh (.int a), .sh (.str z), .sh (.lst (.str nm :: ws.map .str)), s5, s6] = some (.nx [.sh (.int w), L, .sh (.int a), .sh (.str z), .sh (.lst (.str nm :: ws.map .str)), .sh (.lst ((ws.map numI).map .int)), s6]) := by
      refine set_fz (r := .ow ((ws.map numI).map .int)) (comp_of (ds := ws.map .str) (iL_of (r := .ow (ws.map .str)) (sl_tail_l (x := .str nm) (dt_of rfl)) rfl) (by rw [List.length_map, line24]; omega) ?_) rfl
      rw [List.map_map]
      exact mapD_map _ _ fun p hp => ⟨_, rfl, .sh (.int (numI p)), call_of (rs := [.sh (.str p)]) rfl (law_number_gen p (hws p hp)) rfl, rfl⟩
    have d5 : dt (fB oLen [(fVar 5)]) [.sh (.int w), L, .sh (.int a), .sh (.str z), .sh (.lst (.str nm :: ws.map .str)), .sh (.lst ((ws.map numI).map .int)), s6] = some (.int ws.length) := dt_of (fB_of (rs := [.sh (.lst ((ws.map numI).map .int))]) (d := .int ws.length) rfl (by simp [oLen]))
    have nm0 : ∀ {s6 : Sl}, dt (fIx (fVar 4) (fC (.int 0))) [.sh (.int w), L, .sh (.int a), .sh (.str z), .sh (.lst (.str nm :: ws.map .str)), .sh (.lst ((ws.map numI).map .int)), s6] = some (.str nm) := fun {s6} => dt_of (ix_of (a := .lst (.str nm :: ws.map .str)) (i := 0) (dt_of rfl) (dt_of rfl) (atI_nat (j := 0) rfl))
    have first : (bOr (bB (op2 (oEq false) (fB oLen [(fVar 5)]) (fC (.int 0)))) (bB (op2 oLt (fB oMinL [(fVar 5)]) (fC (.int 0))))) [.sh (.int w), L, .sh (.int a), .sh (.str z), .sh (.lst (.str nm :: ws.map .str)), .sh (.lst ((ws.map numI).map .int)), s6] = some (!(decide (ws ≠ []) && ws.all fun z => isNum z.cps.toList)) := by
      by_cases he : ws = []
      · subst he
        exact or_t (eqN (a := 0) (b := 0) d5 (dt_of rfl) rfl)
      · have hl : ws.length ≠ 0 := fun e => he (List.length_eq_zero_iff.mp e)
        obtain ⟨M, eM, hM⟩ := min_nums he
        refine or_f (eqN (a := ws.length) (b := 0) d5 (dt_of rfl) (decide_eq_false hl)) ?_
        rw [decide_eq_true he, Bool.true_and, ← hM]
        refine bB_of (dt_of (op2_of (a := .int M) (b := .int 0) (d := .bl (decide (M < 0))) (dt_of (fB_of (rs := [.sh (.lst ((ws.map numI).map .int))]) (d := .int M) rfl ?_)) (dt_of rfl) (by show oI _ _ _ _ = _; rw [oI_int, if_pos rfl])))
        have ei : ints? ((ws.map numI).map Dm.int) = some (ws.map numI) := by
          have : ∀ l : List Int, ints? (l.map Dm.int) = some l := by
            intro l
            induction l with
            | nil => rfl
            | cons n l ih => show (some n).bind (fun i => (ints? (l.map Dm.int)).map fun r => i :: r) = _; rw [ih]; rfl
          exact this _
        show (ints? ((ws.map numI).map Dm.int)).bind _ = _
        rw [ei, Option.bind_some, eM]
        rfl
    cases hall : (decide (ws ≠ []) && ws.all fun z => isNum z.cps.toList) with
    | false =>
      rw [hall] at first
      have hno : okLine w a z = false := by
        cases hb : bnd w a nm with
        | none => exact okLine_none q hb
        | some bs =>
          rw [okLine_some q hb]
          cases hok : okPairs ws bs with
          | false => rfl
          | true =>
            rw [okPairs_num hok, Bool.and_true] at hall
            have hl := okPairs_len hok
            have := (bnd_lt hw ha hb).2.2
            have he : ws = [] := by simpa using hall
            rw [he] at hl; simp at hl; omega
      rw [hno]
      exact ⟨.un, .un, .un, seq_nx e4 (seq_nx e5 (seq_rt (if_t first (ret_of (r := .sh (.bl false)) rfl))))⟩
    | true =>
      rw [hall] at first
      rw [Bool.and_eq_true, decide_eq_true_eq] at hall
      obtain ⟨hne, hnum⟩ := hall
      have nI : ∀ x ∈ ws, numI x = (valL x.cps.toList : Int) := fun x hx => by unfold numI; rw [if_pos (List.all_eq_true.mp hnum x hx)]
      have at0 : ∀ {x : Str} {xs : List Str} {s6 : Sl}, ws = x :: xs → dt (fIx (fVar 5) (fC (.int 0))) [.sh (.int w), L, .sh (.int a), .sh (.str z), .sh (.lst (.str nm :: ws.map .str)), .sh (.lst ((ws.map numI).map .int)), s6] = some (.int (valL x.cps.toList : Int)) := fun {x xs s6} e => dt_of (ix_of (a := .lst ((ws.map numI).map .int)) (i := 0) (dt_of rfl) (dt_of rfl) (atI_nat (j := 0) (by rw [e]; show some (Dm.int (numI x)) = _; rw [nI x (by rw [e]; exact List.mem_cons_self)])))
      have at1 : ∀ {x y : Str} {xs : List Str} {s6 : Sl}, ws = x :: y :: xs → dt (fIx (fVar 5) (fC (.int 1))) [.sh (.int w), L, .sh (.int a), .sh (.str z), .sh (.lst (.str nm :: ws.map .str)), .sh (.lst ((ws.map numI).map .int)), s6] = some (.int (valL y.cps.toList : Int)) := fun {x y xs s6} e => dt_of (ix_of (a := .lst ((ws.map numI).map .int)) (i := 1) (dt_of rfl) (dt_of rfl) (atI_nat (j := 1) (by rw [e]; show some (Dm.int (numI y)) = _; rw [nI y (by rw [e]; exact List.mem_cons_of_mem _ List.mem_cons_self)])))
      have d5' : ∀ {s6 : Sl}, dt (fB oLen [(fVar 5)]) [.sh (.int w), L, .sh (.int a), .sh (.str z), .sh (.lst (.str nm :: ws.map .str)), .sh (.lst ((ws.map numI).map .int)), s6] = some (.int ws.length) := fun {s6} => dt_of (fB_of (rs := [.sh (.lst ((ws.map numI).map .int))]) (d := .int ws.length) rfl (by simp [oLen]))
      have go : ∀ {fl : Fl}, (gIf (bB (op2 (oEq false) (fIx (fVar 4) (fC (.int 0))) (fC (.str "fix")))) (gIf (bOr (bB (op2 (oEq true) (fB oLen [(fVar 5)]) (fC (.int 1)))) (bB (op2 oGe (fIx (fVar 5) (fC (.int 0))) (op2 oShl (fC (.int 1)) (fVar 0))))) (gRet (fC (.bl false))) BF.gNil)
          (gIf (bB (op2 (oIn false) (fIx (fVar 4) (fC (.int 0))) (fTup [(fC (.str "mask")), (fC (.str "turn")), (fC (.str "both")), (fC (.str "up")), (fC (.str "down"))])))
          (gSeq (gSet 6 (fz (fVar 0))) (gSeq (gIf (bB (op2 (oIn false) (fIx (fVar 4) (fC (.int 0))) (fTup [(fC (.str "mask")), (fC (.str "turn"))]))) (gSet 6 (op2 oSub (op2 oShl (fC (.int 1)) (fVar 0)) (fC (.int 1)))) BF.gNil)
          (gSeq (gIf (bB (op2 (oEq false) (fIx (fVar 4) (fC (.int 0))) (fC (.str "both")))) (gSet 6 (fz (fVar 2))) BF.gNil)
          (gIf (bOr (bB (op2 (oEq true) (fB oLen [(fVar 5)]) (fC (.int 2)))) (bOr (bB (op2 oGt (fIx (fVar 5) (fC (.int 0))) (fVar 2))) (bB (op2 oGt (fIx (fVar 5) (fC (.int 1))) (fVar 6))))) (gRet (fC (.bl false))) BF.gNil))))
          (gRet (fC (.bl false))))) [.sh (.int w), L, .sh (.int a), .sh (.str z), .sh (.lst (.str nm :: ws.map .str)), .sh (.lst ((ws.map numI).map .int)), s6] = some fl → B__law_fine_1 [.sh (.int w), L, .sh (.int a), .sh (.str z), s4, s5, s6] = some fl := fun {fl} h => seq_nx e4 (seq_nx e5 (seq_nx (if_f first nil_nx) h))
      have tf : ∀ {s6 : Sl}, _ := fun {s6} => eqS (δ := [.sh (.int w), L, .sh (.int a), .sh (.str z), .sh (.lst (.str nm :: ws.map .str)), .sh (.lst ((ws.map numI).map .int)), s6]) (f := fIx (fVar 4) (fC (.int 0))) hnm.ok lits.1 nm0
      have tb : ∀ {s6 : Sl}, _ := fun {s6} => eqS (δ := [.sh (.int w), L, .sh (.int a), .sh (.str z), .sh (.lst (.str nm :: ws.map .str)), .sh (.lst ((ws.map numI).map .int)), s6]) (f := fIx (fVar 4) (fC (.int 0))) hnm.ok lits.2 nm0
      have tm : ∀ {s6 : Sl}, _ := fun {s6} => inS2 (δ := [.sh (.int w), L, .sh (.int a), .sh (.str z), .sh (.lst (.str nm :: ws.map .str)), .sh (.lst ((ws.map numI).map .int)), s6]) (f := fIx (fVar 4) (fC (.int 0))) (nm := nm) (a := (("mask" : String) : Str)) (b := (("turn" : String) : Str)) nm0
      have t5' : bB (op2 (oIn false) (fIx (fVar 4) (fC (.int 0))) (fTup [(fC (.str "mask")), (fC (.str "turn")), (fC (.str "both")), (fC (.str "up")), (fC (.str "down"))])) [.sh (.int w), L, .sh (.int a), .sh (.str z), .sh (.lst (.str nm :: ws.map .str)), .sh (.lst ((ws.map numI).map .int)), s6] = some (decide (nm ∈ [(("mask" : String) : Str), (("turn" : String) : Str), (("both" : String) : Str), (("up" : String) : Str), (("down" : String) : Str)])) := bB_of (dt_of (op2_of (a := .str nm) (b := .tup ([(("mask" : String) : Str), (("turn" : String) : Str), (("both" : String) : Str), (("up" : String) : Str), (("down" : String) : Str)].map Dm.str)) nm0 (dt_of (tup_of (rs := [.sh (.str "mask"), .sh (.str "turn"), .sh (.str "both"), .sh (.str "up"), .sh (.str "down")]) rfl rfl (by rw [line24]; simp))) (in_tup nm _)))
      by_cases cf : nm = (("fix" : String) : Str)
      · have hb : bnd w a nm = some [2 ^ w - 1] := by unfold bnd; rw [if_pos cf]
        have h2w := Nat.two_pow_pos w
        rw [okLine_some q hb]
        have hcase : (bOr (bB (op2 (oEq true) (fB oLen [(fVar 5)]) (fC (.int 1)))) (bB (op2 oGe (fIx (fVar 5) (fC (.int 0))) (op2 oShl (fC (.int 1)) (fVar 0))))) [.sh (.int w), L, .sh (.int a), .sh (.str z), .sh (.lst (.str nm :: ws.map .str)), .sh (.lst ((ws.map numI).map .int)), s6] = some (!okPairs ws [2 ^ w - 1]) := by
          match hws' : ws with
          | [] => exact absurd rfl hne
          | [x] =>
            subst hws'
            refine or_f (neN (a := 1) (b := 1) d5' (dt_of rfl) rfl) ?_
            have hx : isNum x.cps.toList = true := List.all_eq_true.mp hnum x List.mem_cons_self
            rw [geN (a := valL x.cps.toList) (b := 2 ^ w) (at0 rfl) (dt_of (shl1 (b := w) (dt_of rfl) (by omega))) rfl]
            show some _ = some (!((isNum x.cps.toList && decide (valL x.cps.toList ≤ 2 ^ w - 1)) && true))
            rw [hx, Bool.true_and, Bool.and_true]
            congr 1
            by_cases hle : valL x.cps.toList ≤ 2 ^ w - 1
            · rw [decide_eq_true hle, decide_eq_false (by omega)]; rfl
            · rw [decide_eq_false hle, decide_eq_true (by omega)]; rfl
          | x :: y :: r =>
            subst hws'
            have : okPairs (x :: y :: r) [2 ^ w - 1] = false := by
              cases hok : okPairs (x :: y :: r) [2 ^ w - 1] with
              | false => rfl
              | true => have := okPairs_len hok; simp at this
            rw [this]
            exact or_t (neN (a := (x :: y :: r).length) (b := 1) d5' (dt_of rfl) (by simp))
        rw [decide_eq_true cf] at tf
        cases hok : okPairs ws [2 ^ w - 1] with
        | true => rw [hok] at hcase; exact ⟨_, _, _, go (if_t tf (if_f hcase nil_nx))⟩
        | false => rw [hok] at hcase; exact ⟨.un, .un, .un, go (if_t tf (if_t hcase (ret_of (r := .sh (.bl false)) rfl)))⟩
      · have tf' := tf (s6 := s6)
        rw [decide_eq_false cf] at tf'
        by_cases c5 : nm ∈ [(("mask" : String) : Str), (("turn" : String) : Str), (("both" : String) : Str), (("up" : String) : Str), (("down" : String) : Str)]
        · rw [decide_eq_true c5] at t5'
          obtain ⟨most, hb, hset⟩ : ∃ most : Nat, bnd w a nm = some [a, most] ∧ ∀ {fl : Fl} {g : SF}, g [.sh (.int w), L, .sh (.int a), .sh (.str z), .sh (.lst (.str nm :: ws.map .str)), .sh (.lst ((ws.map numI).map .int)), .sh (.int most)] = some fl → (gSeq (gSet 6 (fz (fVar 0))) (gSeq (gIf (bB (op2 (oIn false) (fIx (fVar 4) (fC (.int 0))) (fTup [(fC (.str "mask")), (fC (.str "turn"))]))) (gSet 6 (op2 oSub (op2 oShl (fC (.int 1)) (fVar 0)) (fC (.int 1)))) BF.gNil) (gSeq (gIf (bB (op2 (oEq false) (fIx (fVar 4) (fC (.int 0))) (fC (.str "both")))) (gSet 6 (fz (fVar 2))) BF.gNil) g))) [.sh (.int w), L, .sh (.int a), .sh (.str z), .sh (.lst (.str nm :: ws.map .str)), .sh (.lst ((ws.map numI).map .int)), s6] = some fl := by
            have e6 : ∀ {s6 : Sl}, gSet 6 (fz (fVar 0)) [.sh (.int w), L, .sh (.int a), .sh (.str z), .sh (.lst (.str nm :: ws.map .str)), .sh (.lst ((ws.map numI).map .int)), s6] = some (.nx [.sh (.int w), L, .sh (.int a), .sh (.str z), .sh (.lst (.str nm :: ws.map .str)), .sh (.lst ((ws.map numI).map .int)), .sh (.int w)]) := fun {s6} => set_fz (r := .sh (.int w)) rfl rfl
            have tm1 := tm (s6 := .sh (.int w))
            have tb1 := tb (s6 := .sh (.int w))
            by_cases cm : nm ∈ [(("mask" : String) : Str), (("turn" : String) : Str)]
            · have cb : nm ≠ (("both" : String) : Str) := fun e => both_in (by rw [← e]; exact cm)
              have tb2 := tb (s6 := .sh (.int (2 ^ w - 1 : Nat)))
              rw [decide_eq_true cm] at tm1
              rw [decide_eq_false cb] at tb2
              exact ⟨2 ^ w - 1, by unfold bnd; rw [if_neg cf, if_pos (by simpa using cm)], fun {fl g} h => seq_nx e6 (seq_nx (if_t tm1 (set_sh (subN (a := 2 ^ w) (b := 1) (dt_of (shl1 (b := w) (dt_of rfl) (by omega))) (dt_of rfl) (Nat.two_pow_pos w)))) (seq_nx (if_f tb2 nil_nx) h))⟩
            · rw [decide_eq_false cm] at tm1
              by_cases cb : nm = (("both" : String) : Str)
              · rw [decide_eq_true cb] at tb1
                exact ⟨a, by unfold bnd; rw [if_neg cf, if_neg (by simpa using cm), if_pos cb], fun {fl g} h => seq_nx e6 (seq_nx (if_f tm1 nil_nx) (seq_nx (if_t tb1 (set_fz (r := .sh (.int a)) rfl rfl)) h))⟩
              · rw [decide_eq_false cb] at tb1
                refine ⟨w, ?_, fun {fl g} h => seq_nx e6 (seq_nx (if_f tm1 nil_nx) (seq_nx (if_f tb1 nil_nx) h))⟩
                have cu : nm = (("up" : String) : Str) ∨ nm = (("down" : String) : Str) := by
                  simp only [List.mem_cons, List.not_mem_nil, or_false] at c5 cm
                  rcases c5 with e | e | e | e | e
                  · exact absurd (.inl e) cm
                  · exact absurd (.inr e) cm
                  · exact absurd e cb
                  · exact .inl e
                  · exact .inr e
                unfold bnd
                rw [if_neg cf, if_neg (by simpa using cm), if_neg cb, if_pos cu]
          rw [okLine_some q hb]
          have hcase : (bOr (bB (op2 (oEq true) (fB oLen [(fVar 5)]) (fC (.int 2)))) (bOr (bB (op2 oGt (fIx (fVar 5) (fC (.int 0))) (fVar 2))) (bB (op2 oGt (fIx (fVar 5) (fC (.int 1))) (fVar 6))))) [.sh (.int w), L, .sh (.int a), .sh (.str z), .sh (.lst (.str nm :: ws.map .str)), .sh (.lst ((ws.map numI).map .int)), .sh (.int most)] = some (!okPairs ws [a, most]) := by
            have hbad : ws.length ≠ 2 → okPairs ws [a, most] = false := fun hl => by
              cases hok : okPairs ws [a, most] with
              | false => rfl
              | true => have := okPairs_len hok; simp at this; omega
            match hws' : ws with
            | [] => exact absurd rfl hne
            | [x] =>
              subst hws'
              rw [hbad (by simp)]
              exact or_t (neN (a := 1) (b := 2) d5' (dt_of rfl) rfl)
            | [x, y] =>
              subst hws'
              refine or_f (neN (a := 2) (b := 2) d5' (dt_of rfl) rfl) ?_
              have hx : isNum x.cps.toList = true := List.all_eq_true.mp hnum x List.mem_cons_self
              have hy : isNum y.cps.toList = true := List.all_eq_true.mp hnum y (List.mem_cons_of_mem _ List.mem_cons_self)
              rw [bOrV (gtN (a := valL x.cps.toList) (b := a) (fb := fVar 2) (at0 rfl) (dt_of rfl) rfl) (gtN (a := valL y.cps.toList) (b := most) (fb := fVar 6) (at1 rfl) (dt_of rfl) rfl)]
              show some _ = some (!((isNum x.cps.toList && decide (valL x.cps.toList ≤ a)) && ((isNum y.cps.toList && decide (valL y.cps.toList ≤ most)) && true)))
              rw [hx, hy, Bool.true_and, Bool.true_and, Bool.and_true, Bool.not_and]
              congr 2
              · by_cases hle : valL x.cps.toList ≤ a
                · rw [decide_eq_true hle, decide_eq_false (by omega)]; rfl
                · rw [decide_eq_false hle, decide_eq_true (by omega)]; rfl
              · by_cases hle : valL y.cps.toList ≤ most
                · rw [decide_eq_true hle, decide_eq_false (by omega)]; rfl
                · rw [decide_eq_false hle, decide_eq_true (by omega)]; rfl
            | x :: y :: v :: r =>
              subst hws'
              rw [hbad (by simp)]
              exact or_t (neN (a := (x :: y :: v :: r).length) (b := 2) d5' (dt_of rfl) (by simp))
          cases hok : okPairs ws [a, most] with
          | true => rw [hok] at hcase; exact ⟨_, _, _, go (if_f tf' (if_t t5' (hset (if_f hcase nil_nx))))⟩
          | false => rw [hok] at hcase; exact ⟨.un, .un, .un, go (if_f tf' (if_t t5' (hset (if_t hcase (ret_of (r := .sh (.bl false)) rfl)))))⟩
        · rw [decide_eq_false c5] at t5'
          have hb : bnd w a nm = none := by
            simp only [List.mem_cons, List.not_mem_nil, or_false, not_or] at c5
            unfold bnd
            rw [if_neg cf, if_neg (by rintro (e | e); exact c5.1 e; exact c5.2.1 e), if_neg c5.2.2.1, if_neg (by rintro (e | e); exact c5.2.2.2.1 e; exact c5.2.2.2.2 e)]
          rw [okLine_none q hb]
          exact ⟨.un, .un, .un, go (if_f tf' (if_f t5' (ret_of (r := .sh (.bl false)) rfl)))⟩
theorem fine_loop (w : Nat) (hw : w ≤ 64) (L : Sl) : ∀ (zs : List Str) (a : Nat) (s2 s3 s4 s5 s6 : Sl), (∀ z ∈ zs, Fit z) → a + zs.length ≤ 900 → ∃ δ', loopD (.tp [2, 3]) B__law_fine_1 (enumFrom a (zs.map .str)) [.sh (.int w), L, s2, s3, s4, s5, s6] = some (if okFrom w a zs = true then .nx δ' else .rt (.sh (.bl false)))
  | [], a, s2, s3, s4, s5, s6, _, _ => ⟨_, rfl⟩
  | z :: zs, a, s2, s3, s4, s5, s6, hz, hl => by
    rw [List.length_cons] at hl
    obtain ⟨t4, t5, t6, e⟩ := fine_line w a z hw (by omega) (hz z List.mem_cons_self) L s4 s5 s6
    rw [okFrom]
    cases hok : okLine w a z with
    | true =>
      rw [hok, if_pos rfl] at e
      obtain ⟨δ', e2⟩ := fine_loop w hw L zs (a + 1) (.sh (.int a)) (.sh (.str z)) t4 t5 t6 (fun x hx => hz x (List.mem_cons_of_mem _ hx)) (by omega)
      exact ⟨δ', by rw [Bool.true_and]; exact loop_cons (δ1 := [.sh (.int w), L, .sh (.int a), .sh (.str z), s4, s5, s6]) rfl e e2⟩
    | false =>
      rw [hok, if_neg Bool.false_ne_true] at e
      refine ⟨[], ?_⟩
      rw [Bool.false_and, if_neg Bool.false_ne_true]
      show (B__law_fine_1 [.sh (.int w), L, .sh (.int a), .sh (.str z), s4, s5, s6]).bind _ = _
      rw [e]; rfl
theorem fine_gen (w : Nat) (hw : w ≤ 64) (zs : List Str) (hz : ∀ z ∈ zs, Fit z) (hl : zs.length ≤ 400) : F__law_fine [.int w, .lst (zs.map .str)] = some (.sh (.bl (okFrom w 0 zs))) := by
  obtain ⟨δ', e⟩ := fine_loop w hw (.sh (.lst (zs.map .str))) zs 0 .un .un .un .un .un hz (by omega)
  cases hok : okFrom w 0 zs with
  | true =>
    rw [hok, if_pos rfl] at e
    exact body_rt (r := (Rs.sh (.bl true)).out) rfl rfl (seq_nx (for_of (iE_of (r := .sh (.lst (zs.map .str))) rfl rfl) e) (ret_of rfl))
  | false =>
    rw [hok, if_neg Bool.false_ne_true] at e
    exact body_rt (r := .sh (.bl false)) rfl rfl (seq_rt (for_of (iE_of (r := .sh (.lst (zs.map .str))) rfl rfl) e))
end LW
set_option Elab.async false
set_option linter.all false
set_option maxRecDepth 100000
set_option maxHeartbeats 4000000
namespace LW
open PySem L2 BF
set_option linter.unusedSimpArgs false
theorem okEq_texts {zs : List Str} (h : ∀ z ∈ zs, Fit z) : okEq (.lst (zs.map .str)) = true := by
  refine okEq_lst fun d hd => ?_
  obtain ⟨z, hz, rfl⟩ := List.mem_map.mp hd
  have := (h z hz).ok
  simp only [okEq, toPy, PySem.SeqAt.shaped, PyData.canLay0, PyData.depth, Bool.and_eq_true, decide_eq_true_eq] at this
  exact ⟨by simp only [toPy, PyData.canLay0]; exact this.1, by simp [toPy, PyData.depth]⟩
theorem asked_gen (w : Nat) (hw : w ≤ 64) (zs : List Str) (hz : ∀ z ∈ zs, Fit z) (hl : zs.length ≤ 400) : F__law_asked [.int w, .lst (zs.map .str)] = some (.sh (.bl true)) := by
  obtain ⟨o, eo, ho⟩ := read_gen w hw zs hz hl
  have hfine := fine_gen w hw zs hz hl
  have hev : ∀ {s2 s3 : Sl}, evs [(fVar 0), (fVar 4)] [.sh (.int w), .sh (.lst (zs.map .str)), s2, s3, .sh (.lst (zs.map .str)), .un] = some [.sh (.int w), .sh (.lst (zs.map .str))] := fun {s2 s3} => rfl
  have ne4 : ∀ {s2 s3 s5 : Sl}, bB (op2 (oEq true) (fVar 4) (fVar 1)) [.sh (.int w), .sh (.lst (zs.map .str)), s2, s3, .sh (.lst (zs.map .str)), s5] = some false := fun {s2 s3 s5} => bB_of (dt_of (ne_same (d := .lst (zs.map .str)) (dt_of rfl) (dt_of rfl) (okEq_texts hz)))
  have head : ∀ {δ' : List Sl} {r : Rs} {g : SF}, gTry 2 3 5 ["NoDeed"] (fzX (fCallX F_read [(fVar 0), (fVar 4)])) [.sh (.int w), .sh (.lst (zs.map .str)), .sh .non, .sh .non, .sh (.lst (zs.map .str)), .un] = some (.nx δ') → g δ' = some (.rt r) → bodyD 2 6 (gSeq (gSet 2 (fz (fC .non))) (gSeq (gSet 3 (fz (fC .non))) (gSeq (gSet 4 (fz (fList (fVar 1)))) (gSeq (gTry 2 3 5 ["NoDeed"] (fzX (fCallX F_read [(fVar 0), (fVar 4)]))) g)))) [.int w, .lst (zs.map .str)] = some r := fun {δ' r g} h1 h2 => body_rt rfl rfl (seq_nx (set_fz (r := .sh .non) rfl rfl) (seq_nx (set_fz (r := .sh .non) rfl rfl) (seq_nx (set_fz (r := .ow (zs.map .str)) (list_of (dt_of rfl)) rfl) (seq_nx h1 h2))))
  cases o with
  | inl r =>
    obtain ⟨hok, es, rfl, hes⟩ := ho
    rw [hok] at hfine
    have ht : gTry 2 3 5 ["NoDeed"] (fzX (fCallX F_read [(fVar 0), (fVar 4)])) [.sh (.int w), .sh (.lst (zs.map .str)), .sh .non, .sh .non, .sh (.lst (zs.map .str)), .un] = some (.nx [.sh (.int w), .sh (.lst (zs.map .str)), .sh (.lst es), .sh .non, .sh (.lst (zs.map .str)), .un]) := by
      unfold gTry
      rw [fzx_ok (callx_ok hev eo rfl)]
      rfl
    refine head ht (r := (Rs.sh (.bl true)).out) (seq_nx (if_f ne4 nil_nx) (seq_rt (if_t (bB_of (dt_of (call_of (rs := [.sh (.int w), .sh (.lst (zs.map .str))]) rfl hfine rfl))) (ret_of ?_))))
    refine vand_t (bB_of (dt_of (r := .sh (.bl true)) rfl)) (vand_t (bB_of (b := true) (dt_of (isi_of (d := .lst es) (dt_of rfl)))) (eqN' (a := es.length) (b := zs.length) (dt_of (fB_of (rs := [.sh (.lst es)]) (d := .int es.length) rfl (by simp [oLen]))) (dt_of (fB_of (rs := [.sh (.lst (zs.map .str))]) (d := .int zs.length) rfl (by simp [oLen]))) (decide_eq_true hes)))
  | inr c =>
    obtain ⟨hok, rfl⟩ := ho
    rw [hok] at hfine
    have ht : gTry 2 3 5 ["NoDeed"] (fzX (fCallX F_read [(fVar 0), (fVar 4)])) [.sh (.int w), .sh (.lst (zs.map .str)), .sh .non, .sh .non, .sh (.lst (zs.map .str)), .un] = some (.nx [.sh (.int w), .sh (.lst (zs.map .str)), .sh .non, .xc "NoDeed", .sh (.lst (zs.map .str)), .un]) := by
      unfold gTry
      rw [fzx_ex (callx_ex hev eo)]
      have yes : (["NoDeed"] : List Str).contains "NoDeed" = true := by decide +kernel
      show (if (["NoDeed"] : List Str).contains "NoDeed" = true then some (Fl.nx _) else none) = _
      rw [if_pos yes]
      rfl
    have x1 : ∀ (nn : Bool) (t : Str → Bool), fXc 3 ["NoDeed"] nn t [.sh (.int w), .sh (.lst (zs.map .str)), .sh .non, .xc "NoDeed", .sh (.lst (zs.map .str)), .un] = some (.sh (.bl (t "NoDeed"))) := fun nn t => by
      have yes : (["NoDeed"] : List Str).contains "NoDeed" = true := by decide +kernel
      show (if (["NoDeed"] : List Str).contains "NoDeed" = true then some (Rs.sh (Dm.bl (t "NoDeed"))) else none) = _
      rw [if_pos yes]
    refine head ht (r := (Rs.sh (.bl true)).out) (seq_nx (if_f ne4 nil_nx) (seq_nx (if_f (bB_of (dt_of (call_of (rs := [.sh (.int w), .sh (.lst (zs.map .str))]) rfl hfine rfl))) nil_nx) (seq_nx (if_f (bB_of (dt_of (r := .sh (.bl false)) (x1 _ _))) nil_nx) (ret_of ?_))))
    have yes : (["NoDeed"] : List Str).contains "NoDeed" = true := by decide +kernel
    refine vand_t (bB_of (dt_of (r := .sh (.bl true)) (by rw [x1]; rw [yes]))) ?_
    rw [x1, yes]
def AscII (z : Str) : Prop := ∀ c ∈ z.cps.toList, c < 128
theorem fit_of {z : Str} (h : z.length ≤ 400) (ha : AscII z) : Fit z := ⟨h, fun c hc => by have := ha c hc; omega⟩
theorem ascii_app {a b : Str} (ha : AscII a) (hb : AscII b) : AscII (a ++ b) := fun c hc => by
  have e : (a ++ b).cps.toList = a.cps.toList ++ b.cps.toList := by show (a.cps ++ b.cps).toList = _; simp
  rw [e] at hc
  exact (List.mem_append.mp hc).elim (ha c) (hb c)
theorem ascii_num (n : Nat) : AscII (strI (n : Int)) := fun c hc => by have := strI_digits n c hc; omega
theorem scatN {δ : List Sl} {fa fb : EF} {a b : Str} (h1 : dt fa δ = some (.str a)) (h2 : dt fb δ = some (.str b)) (h : a.length + b.length ≤ 1000) : op2 oScat fa fb δ = some (.sh (.str (a ++ b))) := op2_of h1 h2 (by
  show (if _ then _ else _) = _
  rw [if_pos (by rw [line24]; omega)])
theorem strN {δ : List Sl} {f : EF} {n : Nat} (h : dt f δ = some (.int n)) (hn : n < 10 ^ 20) : fB oStr [f] δ = some (.sh (.str (strI (n : Int)))) := by
  obtain ⟨r, er, ed⟩ := dt_some h
  refine fB_of (rs := [r.fz]) (evs_cons er evs_nil) ?_
  show oStr [r.fz.dat] = _
  rw [Rs.fz_dat, ed]
  exact str_part n hn
end LW
set_option Elab.async false
set_option linter.all false
set_option maxRecDepth 100000
set_option maxHeartbeats 4000000
namespace LW
open PySem L2 BF
set_option linter.unusedSimpArgs false
theorem word_ok (m : Int) (w : Nat) (hw2 : w ≤ 64) : F__law_word [.int m, .int w] = some (.sh (.int (m * 10000000000000000051 / 4096 % 2 ^ w))) := by
  have h2 : powOk 1 w = true := powOk_one (by omega) (by omega)
  have h4 := pow2_pos w
  simp [F__law_word, bodyD, gRet, gSeq, gIf, gSet, gApp, BF.gNil, gFrz, frz, op2, dt, fVar, fC, evs, fTup, fLst, fCall, fB, fIx, ixD, fSl, slD, pNo, pSome, fz, own?, bB, bAnd, bOr, bNot, vAnd, vOr, vNot, fIsi, fList, fNeg, fCat, fRep, oAdd, oSub, oMul, oDiv, oMod, oPow, oShl, oShr, oAnd, oOr, oXor, oLt, oLe, oGt, oGe, oMin, oLen, oSum, h2, h4]
theorem mixed_ok (c : Int) (k : Nat) (hc : Builtin.Int.intBits c ≤ 1048576) (hk : k ≤ 1000) : ∃ m : Nat, F__law_mixed [.int c, .int k] = some (.sh (.int m)) ∧ m < 2 ^ 100 := by
  by_cases h : 10000000000000000000000000000000000000000 ≤ c
  · have h3 : powOk 1 (100 * ((k : Int) % 60)) = true := powOk_one (by omega) (by omega)
    have h5 := pow2_pos (100 * ((k : Int) % 60)).toNat
    have h6 : divOk ((2 : Int) ^ (100 * ((k : Int) % 60)).toNat) = true := divOk_pow (by omega)
    have e : F__law_mixed [.int c, .int k] = some (.sh (.int ((c - 10000000000000000000000000000000000000000) / 2 ^ (100 * ((k : Int) % 60)).toNat % 1267650600228229401496703205376))) :=
      body_rt rfl rfl (seq_rt (if_t (by simp [bodyD, gRet, gSeq, gIf, gSet, gApp, BF.gNil, gFrz, frz, op2, dt, fVar, fC, evs, fTup, fLst, fCall, fB, fIx, ixD, fSl, slD, pNo, pSome, fz, own?, bB, bAnd, bOr, bNot, vAnd, vOr, vNot, fIsi, fList, fNeg, fCat, fRep, oAdd, oSub, oMul, oDiv, oMod, oPow, oShl, oShr, oAnd, oOr, oXor, oLt, oLe, oGt, oGe, oMin, oLen, oSum, h]) (by simp [bodyD, gRet, gSeq, gIf, gSet, gApp, BF.gNil, gFrz, frz, op2, dt, fVar, fC, evs, fTup, fLst, fCall, fB, fIx, ixD, fSl, slD, pNo, pSome, fz, own?, bB, bAnd, bOr, bNot, vAnd, vOr, vNot, fIsi, fList, fNeg, fCat, fRep, oAdd, oSub, oMul, oDiv, oMod, oPow, oShl, oShr, oAnd, oOr, oXor, oLt, oLe, oGt, oGe, oMin, oLen, oSum, h3, h5, h6])))
    obtain ⟨m, hm⟩ := Int.eq_ofNat_of_zero_le (Int.emod_nonneg ((c - 10000000000000000000000000000000000000000) / 2 ^ (100 * ((k : Int) % 60)).toNat) (show (1267650600228229401496703205376 : Int) ≠ 0 by decide))
    have h8 := Int.emod_lt_of_pos ((c - 10000000000000000000000000000000000000000) / 2 ^ (100 * ((k : Int) % 60)).toNat) (show (0 : Int) < 1267650600228229401496703205376 by decide)
    rw [hm] at e h8
    exact ⟨m, e, by omega⟩
  · have h1 : mulOk c c = true := mulOk_bits hc hc (by decide)
    have e : ∃ n : Int, F__law_mixed [.int c, .int k] = some (.sh (.int ((n * n + 7) % 2147483587))) ∧ 0 ≤ n ∧ n < 2147483629 := by
      refine ⟨(c * c + 3 * c + 7919 * k + 1) * 48271 % 2147483629, body_rt rfl rfl (seq_nx (if_f (by simp [bodyD, gRet, gSeq, gIf, gSet, gApp, BF.gNil, gFrz, frz, op2, dt, fVar, fC, evs, fTup, fLst, fCall, fB, fIx, ixD, fSl, slD, pNo, pSome, fz, own?, bB, bAnd, bOr, bNot, vAnd, vOr, vNot, fIsi, fList, fNeg, fCat, fRep, oAdd, oSub, oMul, oDiv, oMod, oPow, oShl, oShr, oAnd, oOr, oXor, oLt, oLe, oGt, oGe, oMin, oLen, oSum]; omega) nil_nx) (seq_nx (set_sh (d := .int ((c * c + 3 * c + 7919 * k + 1) * 48271 % 2147483629)) (by simp [bodyD, gRet, gSeq, gIf, gSet, gApp, BF.gNil, gFrz, frz, op2, dt, fVar, fC, evs, fTup, fLst, fCall, fB, fIx, ixD, fSl, slD, pNo, pSome, fz, own?, bB, bAnd, bOr, bNot, vAnd, vOr, vNot, fIsi, fList, fNeg, fCat, fRep, oAdd, oSub, oMul, oDiv, oMod, oPow, oShl, oShr, oAnd, oOr, oXor, oLt, oLe, oGt, oGe, oMin, oLen, oSum, h1])) ?_)), Int.emod_nonneg _ (by decide), Int.emod_lt_of_pos _ (by decide)⟩
      have h2 : mulOk ((c * c + 3 * c + 7919 * k + 1) * 48271 % 2147483629) ((c * c + 3 * c + 7919 * k + 1) * 48271 % 2147483629) = true := mulOk_left (by have := Int.emod_nonneg ((c * c + 3 * c + 7919 * k + 1) * 48271) (show (2147483629 : Int) ≠ 0 by decide); omega) (by have := Int.emod_lt_of_pos ((c * c + 3 * c + 7919 * k + 1) * 48271) (show (0 : Int) < 2147483629 by decide); omega)
      simp [bodyD, gRet, gSeq, gIf, gSet, gApp, BF.gNil, gFrz, frz, op2, dt, fVar, fC, evs, fTup, fLst, fCall, fB, fIx, ixD, fSl, slD, pNo, pSome, fz, own?, bB, bAnd, bOr, bNot, vAnd, vOr, vNot, fIsi, fList, fNeg, fCat, fRep, oAdd, oSub, oMul, oDiv, oMod, oPow, oShl, oShr, oAnd, oOr, oXor, oLt, oLe, oGt, oGe, oMin, oLen, oSum, h2]
    obtain ⟨n, e, h3, h4⟩ := e
    obtain ⟨m, hm⟩ := Int.eq_ofNat_of_zero_le (Int.emod_nonneg (n * n + 7) (show (2147483587 : Int) ≠ 0 by decide))
    have h8 := Int.emod_lt_of_pos (n * n + 7) (show (0 : Int) < 2147483587 by decide)
    rw [hm] at e h8
    exact ⟨m, e, by omega⟩
theorem deed_ok (m w many : Nat) (hw : 1 ≤ w) (hw2 : w ≤ 64) (hm : 1 ≤ many) (hm2 : many ≤ 1000) : ∃ dd, Good w many dd ∧ F__law_deed [.int m, .int w, .int many] = some (.sh (enc dd)) := by
  obtain ⟨x, hx⟩ := Int.eq_ofNat_of_zero_le (Int.emod_nonneg ((m : Int) * 10000000000000000051 / 4096) (Int.ne_of_gt (pow2_pos w)))
  have hx2 := Int.emod_lt_of_pos ((m : Int) * 10000000000000000051 / 4096) (pow2_pos w)
  have hword := word_ok m w hw2
  rw [hx] at hword hx2
  have hx3 : x < 2 ^ w := by exact_mod_cast hx2
  have one : ∃ a : Nat, a < many ∧ ∀ g fl, g [.sh (.int m), .sh (.int w), .sh (.int many), .sh (.int a), .un, .un] = some fl → gSeq (gSet 3 (op2 oMod (op2 oDiv (fVar 0) (fC (.int 11))) (fVar 2)))
      (gSeq (gIf (bB (op2 oGt (op2 oMod (op2 oDiv (fVar 0) (fC (.int 5))) (fC (.int 3))) (fC (.int 0))))
      (gSet 3 (op2 oSub (op2 oSub (fVar 2) (fC (.int 1))) (op2 oMod (op2 oDiv (fVar 0) (fC (.int 11))) (fB oMin [(fVar 2), (fC (.int 3))]))))
      BF.gNil) g) [.sh (.int m), .sh (.int w), .sh (.int many), .un, .un, .un] = some fl := by
    have p1 : posOk (many : Int) = true := posOk_of (by omega)
    by_cases h5 : (0 : Int) < (m : Int) / 5 % 3
    · obtain ⟨q, hq1, hq2, hq3⟩ : ∃ q : Nat, 1 ≤ q ∧ q ≤ many ∧ (if (3 : Int) < many then (3 : Int) else many) = (q : Int) := by
        by_cases h3 : 3 < many
        · exact ⟨3, by omega, by omega, by rw [if_pos (by omega)]; rfl⟩
        · exact ⟨many, by omega, by omega, by rw [if_neg (by omega)]⟩
      have hr : m / 11 % q < q := Nat.mod_lt _ (by omega)
      have er : (m : Int) / 11 % (q : Int) = ((m / 11 % q : Nat) : Int) := by push_cast; rfl
      have p2 : posOk (q : Int) = true := posOk_of (by omega)
      refine ⟨many - 1 - m / 11 % q, by omega, fun g fl hg => seq_nx (set_sh (d := .int ((m : Int) / 11 % many)) (by simp [bodyD, gRet, gSeq, gIf, gSet, gApp, BF.gNil, gFrz, frz, op2, dt, fVar, fC, evs, fTup, fLst, fCall, fB, fIx, ixD, fSl, slD, pNo, pSome, fz, own?, bB, bAnd, bOr, bNot, vAnd, vOr, vNot, fIsi, fList, fNeg, fCat, fRep, oAdd, oSub, oMul, oDiv, oMod, oPow, oShl, oShr, oAnd, oOr, oXor, oLt, oLe, oGt, oGe, oMin, oLen, oSum, p1])) (seq_nx (if_t (by simp [bodyD, gRet, gSeq, gIf, gSet, gApp, BF.gNil, gFrz, frz, op2, dt, fVar, fC, evs, fTup, fLst, fCall, fB, fIx, ixD, fSl, slD, pNo, pSome, fz, own?, bB, bAnd, bOr, bNot, vAnd, vOr, vNot, fIsi, fList, fNeg, fCat, fRep, oAdd, oSub, oMul, oDiv, oMod, oPow, oShl, oShr, oAnd, oOr, oXor, oLt, oLe, oGt, oGe, oMin, oLen, oSum]; omega) (set_sh (d := .int (many - 1 - m / 11 % q : Nat)) ?_)) hg)⟩
      simp [bodyD, gRet, gSeq, gIf, gSet, gApp, BF.gNil, gFrz, frz, op2, dt, fVar, fC, evs, fTup, fLst, fCall, fB, fIx, ixD, fSl, slD, pNo, pSome, fz, own?, bB, bAnd, bOr, bNot, vAnd, vOr, vNot, fIsi, fList, fNeg, fCat, fRep, oAdd, oSub, oMul, oDiv, oMod, oPow, oShl, oShr, oAnd, oOr, oXor, oLt, oLe, oGt, oGe, oMin, oLen, oSum, p1]
      rw [hq3, if_pos p2]
      simp
      rw [er]
      omega
    · refine ⟨m / 11 % many, Nat.mod_lt _ hm, fun g fl hg => seq_nx (set_sh (d := .int ((m / 11 % many : Nat) : Int)) (by simp [bodyD, gRet, gSeq, gIf, gSet, gApp, BF.gNil, gFrz, frz, op2, dt, fVar, fC, evs, fTup, fLst, fCall, fB, fIx, ixD, fSl, slD, pNo, pSome, fz, own?, bB, bAnd, bOr, bNot, vAnd, vOr, vNot, fIsi, fList, fNeg, fCat, fRep, oAdd, oSub, oMul, oDiv, oMod, oPow, oShl, oShr, oAnd, oOr, oXor, oLt, oLe, oGt, oGe, oMin, oLen, oSum, p1])) (seq_nx (if_f (by simp [bodyD, gRet, gSeq, gIf, gSet, gApp, BF.gNil, gFrz, frz, op2, dt, fVar, fC, evs, fTup, fLst, fCall, fB, fIx, ixD, fSl, slD, pNo, pSome, fz, own?, bB, bAnd, bOr, bNot, vAnd, vOr, vNot, fIsi, fList, fNeg, fCat, fRep, oAdd, oSub, oMul, oDiv, oMod, oPow, oShl, oShr, oAnd, oOr, oXor, oLt, oLe, oGt, oGe, oMin, oLen, oSum]; omega) nil_nx) hg)⟩
  obtain ⟨a, ha, one⟩ := one
  have p3 : posOk ((w : Int) + 1) = true := posOk_of (by omega)
  have p4 : posOk (many : Int) = true := posOk_of (by omega)
  have p5 : powOk 1 (w : Int) = true := powOk_one (by omega) (by omega)
  have hway : F__law_deed [.int m, .int w, .int many] = some (.sh (enc (
      if m % 11 = 0 then .fix x else if m % 11 < 3 then .mask a (if m / 13 % 4 < 2 then x else if m / 13 % 4 = 2 then 2 ^ w - 1 else 0) else if m % 11 < 5 then .turn a x else if m % 11 < 8 then .both a (m / 1009 % many)
      else if m / 17 % 2 = 0 then .up a (m / 34 % (w + 1)) else .down a (m / 34 % (w + 1))))) := by
    refine body_rt rfl rfl (one _ _ ?_)
    refine seq_nx (set_sh (d := .int ((m % 11 : Nat) : Int)) (by simp [bodyD, gRet, gSeq, gIf, gSet, gApp, BF.gNil, gFrz, frz, op2, dt, fVar, fC, evs, fTup, fLst, fCall, fB, fIx, ixD, fSl, slD, pNo, pSome, fz, own?, bB, bAnd, bOr, bNot, vAnd, vOr, vNot, fIsi, fList, fNeg, fCat, fRep, oAdd, oSub, oMul, oDiv, oMod, oPow, oShl, oShr, oAnd, oOr, oXor, oLt, oLe, oGt, oGe, oMin, oLen, oSum])) ?_
    refine seq_nx (set_fz (r := .sh (.int x)) (call_of (rs := [.sh (.int m), .sh (.int w)]) (by simp [bodyD, gRet, gSeq, gIf, gSet, gApp, BF.gNil, gFrz, frz, op2, dt, fVar, fC, evs, fTup, fLst, fCall, fB, fIx, ixD, fSl, slD, pNo, pSome, fz, own?, bB, bAnd, bOr, bNot, vAnd, vOr, vNot, fIsi, fList, fNeg, fCat, fRep, oAdd, oSub, oMul, oDiv, oMod, oPow, oShl, oShr, oAnd, oOr, oXor, oLt, oLe, oGt, oGe, oMin, oLen, oSum]) hword (by simp)) rfl) ?_
    by_cases c0 : m % 11 = 0
    · rw [if_pos c0]
      refine seq_rt (if_t (by simp [bodyD, gRet, gSeq, gIf, gSet, gApp, BF.gNil, gFrz, frz, op2, dt, fVar, fC, evs, fTup, fLst, fCall, fB, fIx, ixD, fSl, slD, pNo, pSome, fz, own?, bB, bAnd, bOr, bNot, vAnd, vOr, vNot, fIsi, fList, fNeg, fCat, fRep, oAdd, oSub, oMul, oDiv, oMod, oPow, oShl, oShr, oAnd, oOr, oXor, oLt, oLe, oGt, oGe, oMin, oLen, oSum, oEq_int, c0]) ?_)
      simp [bodyD, gRet, gSeq, gIf, gSet, gApp, BF.gNil, gFrz, frz, op2, dt, fVar, fC, evs, fTup, fLst, fCall, fB, fIx, ixD, fSl, slD, pNo, pSome, fz, own?, bB, bAnd, bOr, bNot, vAnd, vOr, vNot, fIsi, fList, fNeg, fCat, fRep, oAdd, oSub, oMul, oDiv, oMod, oPow, oShl, oShr, oAnd, oOr, oXor, oLt, oLe, oGt, oGe, oMin, oLen, oSum, line24, enc]
    rw [if_neg c0]
    refine seq_nx (if_f (by simp [bodyD, gRet, gSeq, gIf, gSet, gApp, BF.gNil, gFrz, frz, op2, dt, fVar, fC, evs, fTup, fLst, fCall, fB, fIx, ixD, fSl, slD, pNo, pSome, fz, own?, bB, bAnd, bOr, bNot, vAnd, vOr, vNot, fIsi, fList, fNeg, fCat, fRep, oAdd, oSub, oMul, oDiv, oMod, oPow, oShl, oShr, oAnd, oOr, oXor, oLt, oLe, oGt, oGe, oMin, oLen, oSum, oEq_int]; omega) nil_nx) ?_
    by_cases c1 : m % 11 < 3
    · rw [if_pos c1]
      refine seq_rt (if_t (by simp [bodyD, gRet, gSeq, gIf, gSet, gApp, BF.gNil, gFrz, frz, op2, dt, fVar, fC, evs, fTup, fLst, fCall, fB, fIx, ixD, fSl, slD, pNo, pSome, fz, own?, bB, bAnd, bOr, bNot, vAnd, vOr, vNot, fIsi, fList, fNeg, fCat, fRep, oAdd, oSub, oMul, oDiv, oMod, oPow, oShl, oShr, oAnd, oOr, oXor, oLt, oLe, oGt, oGe, oMin, oLen, oSum]; omega) ?_)
      have cases4 : m / 13 % 4 = 0 ∨ m / 13 % 4 = 1 ∨ m / 13 % 4 = 2 ∨ m / 13 % 4 = 3 := by omega
      have em : (m : Int) / 13 % 4 = ((m / 13 % 4 : Nat) : Int) := by push_cast; rfl
      rcases cases4 with c | c | c | c <;> rw [c] at em ⊢ <;> simp [bodyD, gRet, gSeq, gIf, gSet, gApp, BF.gNil, gFrz, frz, op2, dt, fVar, fC, evs, fTup, fLst, fCall, fB, fIx, ixD, fSl, slD, pNo, pSome, fz, own?, bB, bAnd, bOr, bNot, vAnd, vOr, vNot, fIsi, fList, fNeg, fCat, fRep, oAdd, oSub, oMul, oDiv, oMod, oPow, oShl, oShr, oAnd, oOr, oXor, oLt, oLe, oGt, oGe, oMin, oLen, oSum, line24, enc, p5, em, atI, ixN, natCast_mask]
    rw [if_neg c1]
    refine seq_nx (if_f (by simp [bodyD, gRet, gSeq, gIf, gSet, gApp, BF.gNil, gFrz, frz, op2, dt, fVar, fC, evs, fTup, fLst, fCall, fB, fIx, ixD, fSl, slD, pNo, pSome, fz, own?, bB, bAnd, bOr, bNot, vAnd, vOr, vNot, fIsi, fList, fNeg, fCat, fRep, oAdd, oSub, oMul, oDiv, oMod, oPow, oShl, oShr, oAnd, oOr, oXor, oLt, oLe, oGt, oGe, oMin, oLen, oSum]; omega) nil_nx) ?_
    by_cases c2 : m % 11 < 5
    · rw [if_pos c2]
      refine seq_rt (if_t (by simp [bodyD, gRet, gSeq, gIf, gSet, gApp, BF.gNil, gFrz, frz, op2, dt, fVar, fC, evs, fTup, fLst, fCall, fB, fIx, ixD, fSl, slD, pNo, pSome, fz, own?, bB, bAnd, bOr, bNot, vAnd, vOr, vNot, fIsi, fList, fNeg, fCat, fRep, oAdd, oSub, oMul, oDiv, oMod, oPow, oShl, oShr, oAnd, oOr, oXor, oLt, oLe, oGt, oGe, oMin, oLen, oSum]; omega) ?_)
      simp [bodyD, gRet, gSeq, gIf, gSet, gApp, BF.gNil, gFrz, frz, op2, dt, fVar, fC, evs, fTup, fLst, fCall, fB, fIx, ixD, fSl, slD, pNo, pSome, fz, own?, bB, bAnd, bOr, bNot, vAnd, vOr, vNot, fIsi, fList, fNeg, fCat, fRep, oAdd, oSub, oMul, oDiv, oMod, oPow, oShl, oShr, oAnd, oOr, oXor, oLt, oLe, oGt, oGe, oMin, oLen, oSum, line24, enc]
    rw [if_neg c2]
    refine seq_nx (if_f (by simp [bodyD, gRet, gSeq, gIf, gSet, gApp, BF.gNil, gFrz, frz, op2, dt, fVar, fC, evs, fTup, fLst, fCall, fB, fIx, ixD, fSl, slD, pNo, pSome, fz, own?, bB, bAnd, bOr, bNot, vAnd, vOr, vNot, fIsi, fList, fNeg, fCat, fRep, oAdd, oSub, oMul, oDiv, oMod, oPow, oShl, oShr, oAnd, oOr, oXor, oLt, oLe, oGt, oGe, oMin, oLen, oSum]; omega) nil_nx) ?_
    by_cases c3 : m % 11 < 8
    · rw [if_pos c3]
      refine seq_rt (if_t (by simp [bodyD, gRet, gSeq, gIf, gSet, gApp, BF.gNil, gFrz, frz, op2, dt, fVar, fC, evs, fTup, fLst, fCall, fB, fIx, ixD, fSl, slD, pNo, pSome, fz, own?, bB, bAnd, bOr, bNot, vAnd, vOr, vNot, fIsi, fList, fNeg, fCat, fRep, oAdd, oSub, oMul, oDiv, oMod, oPow, oShl, oShr, oAnd, oOr, oXor, oLt, oLe, oGt, oGe, oMin, oLen, oSum]; omega) ?_)
      simp [bodyD, gRet, gSeq, gIf, gSet, gApp, BF.gNil, gFrz, frz, op2, dt, fVar, fC, evs, fTup, fLst, fCall, fB, fIx, ixD, fSl, slD, pNo, pSome, fz, own?, bB, bAnd, bOr, bNot, vAnd, vOr, vNot, fIsi, fList, fNeg, fCat, fRep, oAdd, oSub, oMul, oDiv, oMod, oPow, oShl, oShr, oAnd, oOr, oXor, oLt, oLe, oGt, oGe, oMin, oLen, oSum, line24, enc, p4]
    rw [if_neg c3]
    refine seq_nx (if_f (by simp [bodyD, gRet, gSeq, gIf, gSet, gApp, BF.gNil, gFrz, frz, op2, dt, fVar, fC, evs, fTup, fLst, fCall, fB, fIx, ixD, fSl, slD, pNo, pSome, fz, own?, bB, bAnd, bOr, bNot, vAnd, vOr, vNot, fIsi, fList, fNeg, fCat, fRep, oAdd, oSub, oMul, oDiv, oMod, oPow, oShl, oShr, oAnd, oOr, oXor, oLt, oLe, oGt, oGe, oMin, oLen, oSum]; omega) nil_nx) ?_
    have cases2 : m / 17 % 2 = 0 ∨ m / 17 % 2 = 1 := by omega
    have em : (m : Int) / 17 % 2 = ((m / 17 % 2 : Nat) : Int) := by push_cast; rfl
    rcases cases2 with c | c <;> rw [c] at em ⊢ <;> simp [bodyD, gRet, gSeq, gIf, gSet, gApp, BF.gNil, gFrz, frz, op2, dt, fVar, fC, evs, fTup, fLst, fCall, fB, fIx, ixD, fSl, slD, pNo, pSome, fz, own?, bB, bAnd, bOr, bNot, vAnd, vOr, vNot, fIsi, fList, fNeg, fCat, fRep, oAdd, oSub, oMul, oDiv, oMod, oPow, oShl, oShr, oAnd, oOr, oXor, oLt, oLe, oGt, oGe, oMin, oLen, oSum, line24, enc, p3, em, atI, ixN]
  refine ⟨_, ?_, hway⟩
  have l1 := Nat.mod_lt (m / 1009) hm
  have l2 : m / 34 % (w + 1) < w + 1 := Nat.mod_lt _ (by omega)
  have l3 : 0 < 2 ^ w := Nat.two_pow_pos w
  repeat' split
  all_goals first | exact hx3 | exact ⟨ha, hx3⟩ | exact ⟨ha, l1⟩ | exact ⟨ha, by omega⟩
theorem rows_loop (w : Nat) (hw : 1 ≤ w) (hw2 : w ≤ 64) (L M : Dm) : ∀ (cs : List Int) (ds : List Deed) (s4 s5 : Sl), (∀ c ∈ cs, Builtin.Int.intBits c ≤ 1048576) → ds.length + cs.length ≤ 400 → GoodRow w ds →
    ∃ (es : List Deed) (t4 t5 : Sl), GoodRow w es ∧ es.length = ds.length + cs.length ∧ loopD (.tp [4, 5]) (gApp 3 (fCall F__law_deed [(fCall F__law_mixed [(fVar 5), (fVar 4)]), (fVar 1), (op2 oAdd (fB oLen [(fVar 3)]) (fC (.int 1)))]))
      (enumFrom ds.length (cs.map .int)) [.sh L, .sh (.int w), .sh M, .ow (ds.map enc), s4, s5] = some (.nx [.sh L, .sh (.int w), .sh M, .ow (es.map enc), t4, t5])
  | [], ds, s4, s5, _, _, hg => ⟨ds, s4, s5, hg, by simp, rfl⟩
  | c :: cs, ds, s4, s5, hc, hl, hg => by
    rw [List.length_cons] at hl
    obtain ⟨m, em, hm⟩ := mixed_ok c ds.length (hc c List.mem_cons_self) (by omega)
    obtain ⟨dd, gd, ed⟩ := deed_ok m w (ds.length + 1) hw hw2 (by omega) (by omega)
    obtain ⟨es, t4, t5, ge, le, ee⟩ := rows_loop w hw hw2 L M cs (ds ++ [dd]) (.sh (.int ds.length)) (.sh (.int c)) (fun x hx => hc x (List.mem_cons_of_mem _ hx)) (by rw [List.length_append, List.length_singleton]; omega) (goodRow_snoc hg gd)
    refine ⟨es, t4, t5, ge, by rw [le, List.length_append, List.length_singleton, List.length_cons]; omega, ?_⟩
    refine loop_cons (δ1 := [.sh L, .sh (.int w), .sh M, .ow (ds.map enc), .sh (.int ds.length), .sh (.int c)]) rfl (app_of (ds := ds.map enc) (r := .sh (enc dd)) rfl (call_of (rs := [.sh (.int m), .sh (.int w), .sh (.int (ds.length + 1 : Nat))]) ?_ ed (by simp)) rfl (by rw [List.length_map, line24]; omega)) ?_
    · have e1 : fCall F__law_mixed [(fVar 5), (fVar 4)] [.sh L, .sh (.int w), .sh M, .ow (ds.map enc), .sh (.int ds.length), .sh (.int c)] = some (.sh (.int m)) := call_of (rs := [.sh (.int c), .sh (.int ds.length)]) rfl em (by simp)
      simp only [evs, e1]
      simp [bodyD, gRet, gSeq, gIf, gSet, gApp, BF.gNil, gFrz, frz, op2, dt, fVar, fC, evs, fTup, fLst, fCall, fB, fIx, ixD, fSl, slD, pNo, pSome, fz, own?, bB, bAnd, bOr, bNot, vAnd, vOr, vNot, fIsi, fList, fNeg, fCat, fRep, oAdd, oSub, oMul, oDiv, oMod, oPow, oShl, oShr, oAnd, oOr, oXor, oLt, oLe, oGt, oGe, oMin, oLen, oSum]
    · rw [List.map_append, List.length_append] at ee
      exact ee
theorem rows_ok (cs : List Int) (w most : Nat) (hw : 1 ≤ w) (hw2 : w ≤ 64) (hc : ∀ c ∈ cs, Builtin.Int.intBits c ≤ 1048576) (hl : cs.length ≤ 400) :
    ∃ ds, GoodRow w ds ∧ ds.length ≤ cs.length ∧ F__law_rows [.lst (cs.map .int), .int w, .int most] = some (.ow (ds.map enc)) := by
  obtain ⟨es, t4, t5, ge, le, ee⟩ := rows_loop w hw hw2 (.lst (cs.map .int)) (.int most) (cs.take most) [] .un .un (fun x hx => hc x (List.mem_of_mem_take hx)) (by rw [List.length_take]; simp; omega) (fun i d h => by simp at h)
  refine ⟨es, ge, by rw [le, List.length_take]; simp; omega, ?_⟩
  refine body_rt (r := (Rs.al 3 (es.map enc)).out) rfl rfl (seq_nx (set_ow (d := []) (by simp [bodyD, gRet, gSeq, gIf, gSet, gApp, BF.gNil, gFrz, frz, op2, dt, fVar, fC, evs, fTup, fLst, fCall, fB, fIx, ixD, fSl, slD, pNo, pSome, fz, own?, bB, bAnd, bOr, bNot, vAnd, vOr, vNot, fIsi, fList, fNeg, fCat, fRep, oAdd, oSub, oMul, oDiv, oMod, oPow, oShl, oShr, oAnd, oOr, oXor, oLt, oLe, oGt, oGe, oMin, oLen, oSum])) (seq_nx (for_of (ds := enumFrom 0 ((cs.take most).map .int)) ?_ ee) (ret_of rfl)))
  simp [bodyD, gRet, gSeq, gIf, gSet, gApp, BF.gNil, gFrz, frz, op2, dt, fVar, fC, evs, fTup, fLst, fCall, fB, fIx, ixD, fSl, slD, pNo, pSome, fz, own?, bB, bAnd, bOr, bNot, vAnd, vOr, vNot, fIsi, fList, fNeg, fCat, fRep, oAdd, oSub, oMul, oDiv, oMod, oPow, oShl, oShr, oAnd, oOr, oXor, oLt, oLe, oGt, oGe, oMin, oLen, oSum, iE, shl?, cut_to, enumD_from, List.map_take]
theorem width_at (i : Int) (h0 : 0 ≤ i) (h1 : i < 9) : ∃ w : Nat, 1 ≤ w ∧ w ≤ 64 ∧ atI [Dm.int 8, .int 4, .int 16, .int 1, .int 2, .int 32, .int 64, .int 8, .int 4] i = some (.int (w : Int)) := by
  rcases (show i = 0 ∨ i = 1 ∨ i = 2 ∨ i = 3 ∨ i = 4 ∨ i = 5 ∨ i = 6 ∨ i = 7 ∨ i = 8 by omega) with rfl | rfl | rfl | rfl | rfl | rfl | rfl | rfl | rfl
  · exact ⟨8, by decide, by decide, rfl⟩
  · exact ⟨4, by decide, by decide, rfl⟩
  · exact ⟨16, by decide, by decide, rfl⟩
  · exact ⟨1, by decide, by decide, rfl⟩
  · exact ⟨2, by decide, by decide, rfl⟩
  · exact ⟨32, by decide, by decide, rfl⟩
  · exact ⟨64, by decide, by decide, rfl⟩
  · exact ⟨8, by decide, by decide, rfl⟩
  · exact ⟨4, by decide, by decide, rfl⟩
def nameOf : Deed → Str
  | .fix _ => "fix"
  | .mask _ _ => "mask"
  | .turn _ _ => "turn"
  | .both _ _ => "both"
  | .up _ _ => "up"
  | .down _ _ => "down"
def numsOf : Deed → List Nat
  | .fix m => [m]
  | .mask a m => [a, m]
  | .turn a m => [a, m]
  | .both a b => [a, b]
  | .up a n => [a, n]
  | .down a n => [a, n]
theorem enc_eq (d : Deed) : enc d = .tup (.str (nameOf d) :: nats (numsOf d)) := by cases d <;> rfl
theorem nums_lt {w many : Nat} {d : Deed} (hw : w ≤ 64) (hm : many ≤ 1000) (g : Good w many d) : ∀ n ∈ numsOf d, n < 10 ^ 20 := by
  have h2 : 2 ^ w ≤ 2 ^ 64 := Nat.pow_le_pow_right (by decide) hw
  have h3 : (2 : Nat) ^ 64 < 10 ^ 20 := by decide
  intro n hn
  cases d with
  | fix m => rw [List.mem_singleton.mp hn]; exact Nat.lt_of_lt_of_le g (by omega)
  | mask a m =>
    rcases List.mem_cons.mp hn with rfl | hn
    · have := g.1; omega
    · rw [List.mem_singleton.mp hn]; have := g.2; omega
  | turn a m =>
    rcases List.mem_cons.mp hn with rfl | hn
    · have := g.1; omega
    · rw [List.mem_singleton.mp hn]; have := g.2; omega
  | both a m =>
    rcases List.mem_cons.mp hn with rfl | hn
    · have := g.1; omega
    · rw [List.mem_singleton.mp hn]; have := g.2; omega
  | up a m =>
    rcases List.mem_cons.mp hn with rfl | hn
    · have := g.1; omega
    · rw [List.mem_singleton.mp hn]; have := g.2; omega
  | down a m =>
    rcases List.mem_cons.mp hn with rfl | hn
    · have := g.1; omega
    · rw [List.mem_singleton.mp hn]; have := g.2; omega
theorem nums_len (d : Deed) : (numsOf d).length ≤ 2 := by cases d <;> simp [numsOf]
theorem name_len (d : Deed) : (nameOf d).length ≤ 4 := by cases d <;> simp only [nameOf] <;> decide +kernel
def lineFrom (z : Str) (ns : List Nat) : Str := ns.foldl (fun acc (n : Nat) => acc ++ ((" " : String) : Str) ++ strI (n : Int)) z
def lineD (d : Deed) : Str := lineFrom (nameOf d) (numsOf d)
theorem blank_len : (((" " : String) : Str)).length = 1 := by decide +kernel
theorem glued_line (z : Str) (ns : List Nat) : Txt.join ((" " : String) : Str) (z :: ns.map fun (n : Nat) => strI (n : Int)) = lineFrom z ns := by
  have key : ∀ (ns : List Nat) (a : Array Nat), (ns.map fun (n : Nat) => strI (n : Int)).foldl (fun acc (p : Str) => acc ++ (((" " : String) : Str)).cps ++ p.cps) a = (lineFrom ⟨a⟩ ns).cps := by
    intro ns
    induction ns with
    | nil => intro a; rfl
    | cons n ns ih => intro a; exact ih _
  show (⟨_⟩ : Str) = _
  have := key ns z.cps
  rw [show lineFrom z ns = ⟨(lineFrom ⟨z.cps⟩ ns).cps⟩ from rfl, ← this]
  rfl
theorem sp_eq : ((" " : String) : Str) = ⟨#[32]⟩ := by decide +kernel
theorem line_signs (d : Deed) : ∀ c ∈ (lineD d).cps.toList, c < 128 := by
  have key : ∀ (ns : List Nat) (z : Str), (∀ c ∈ z.cps.toList, c < 128) → ∀ c ∈ (lineFrom z ns).cps.toList, c < 128 := by
    intro ns
    induction ns with
    | nil => intro z h; exact h
    | cons n ns ih =>
      intro z h
      refine ih (z ++ ((" " : String) : Str) ++ strI (n : Int)) fun c hc => ?_
      have hc' : c ∈ (z.cps ++ (((" " : String) : Str)).cps ++ (strI (n : Int)).cps).toList := hc
      simp only [Array.toList_append, List.mem_append] at hc'
      rcases hc' with (hc | hc) | hc
      · exact h c hc
      · rw [sp_eq] at hc
        have : c = 32 := by simpa using hc
        omega
      · have := strI_digits n c hc; omega
  refine key _ _ ?_
  cases d <;> simp only [nameOf] <;> decide +kernel
theorem lineFrom_len : ∀ (ns : List Nat) (z : Str), (∀ n ∈ ns, n < 10 ^ 20) → (lineFrom z ns).length ≤ z.length + 21 * ns.length
  | [], z, _ => by simp [lineFrom]
  | n :: ns, z, h => by
    have := lineFrom_len ns (z ++ ((" " : String) : Str) ++ strI (n : Int)) fun x hx => h x (List.mem_cons_of_mem _ hx)
    rw [len_app, len_app, blank_len] at this
    have hs := strI_short (h n List.mem_cons_self)
    rw [List.length_cons]
    show (lineFrom (z ++ ((" " : String) : Str) ++ strI (n : Int)) ns).length ≤ _
    omega
theorem line_fit {w many : Nat} {d : Deed} (hw : w ≤ 64) (hm : many ≤ 1000) (g : Good w many d) : Fit (lineD d) := by
  have h1 := lineFrom_len (numsOf d) (nameOf d) (nums_lt hw hm g)
  have h2 := nums_len d
  have h3 := name_len d
  exact fit_of (by show (lineFrom (nameOf d) (numsOf d)).length ≤ 400; omega) (line_signs d)
def fitB (z : Str) : Bool := decide (z.length ≤ 60) && z.cps.toList.all fun c => decide (c < 128)
theorem fit_B {z : Str} (h : fitB z = true) : Fit z := by
  unfold fitB at h
  rw [Bool.and_eq_true, decide_eq_true_eq] at h
  exact fit_of (by omega) fun c hc => of_decide_eq_true (List.all_eq_true.mp h.2 c hc)
theorem fit_lit {a : Str} {n : Nat} (h : (decide (a.length ≤ 30) && a.cps.toList.all fun c => decide (c < 128)) = true) (hn : n < 10 ^ 20) : Fit (a ++ strI (n : Int)) := by
  rw [Bool.and_eq_true, decide_eq_true_eq] at h
  exact fit_of (by rw [len_app]; have := strI_short hn; omega) (ascii_app (fun c hc => of_decide_eq_true (List.all_eq_true.mp h.2 c hc)) (ascii_num n))
theorem fit_lit2 {a b : Str} {n : Nat} (h : (decide (a.length ≤ 30) && a.cps.toList.all fun c => decide (c < 128)) = true) (hb : (decide (b.length ≤ 30) && b.cps.toList.all fun c => decide (c < 128)) = true) (hn : n < 10 ^ 20) : Fit (a ++ strI (n : Int) ++ b) := by
  rw [Bool.and_eq_true, decide_eq_true_eq] at h hb
  exact fit_of (by rw [len_app, len_app]; have := strI_short hn; omega) (ascii_app (ascii_app (fun c hc => of_decide_eq_true (List.all_eq_true.mp h.2 c hc)) (ascii_num n)) (fun c hc => of_decide_eq_true (List.all_eq_true.mp hb.2 c hc)))
theorem cat_strs {fa fb : EF} {δ : List Sl} {xs ys : List Str} (h1 : dt fa δ = some (.lst (xs.map .str))) (h2 : fb δ = some (.ow (ys.map .str))) (h : xs.length + ys.length ≤ 1000) : fCat fa fb δ = some (.ow ((xs ++ ys).map .str)) := by
  rw [List.map_append]
  exact cat_of h1 (dt_of h2) (by rw [List.length_map, List.length_map, line24]; omega)
theorem bad_gen (m w many : Nat) (hw : w ≤ 64) (hm : many ≤ 1000) : ∃ z, Fit z ∧ F__law_bad [.int m, .int w, .int many] = some (.sh (.str z)) := by
  have h2w := Nat.two_pow_pos w
  have h64 : 2 ^ w ≤ 2 ^ 64 := Nat.pow_le_pow_right (by decide) hw
  have e64 : 2 ^ 64 = 18446744073709551616 := by decide
  have hp : 2 ^ w < 10 ^ 20 := by omega
  have s20 : ∀ {n : Nat}, n < 10 ^ 20 → (strI (n : Int)).length ≤ 20 := fun h => strI_short h
  have g3 : gSet 3 (fB oStr [(op2 oShl (fC (.int 1)) (fVar 1))]) [.sh (.int m), .sh (.int w), .sh (.int many), .un, .un] = some (.nx [.sh (.int m), .sh (.int w), .sh (.int many), .sh (.str (strI ((2 ^ w : Nat) : Int))), .un]) := set_sh (strN (dt_of (shl1 (b := w) (dt_of rfl) (by omega))) hp)
  have lit : ∀ {a : Str}, a.length ≤ 30 → ∀ {δ : List Sl} {f : EF} {n : Nat}, dt f δ = some (.str (strI (n : Int))) → n < 10 ^ 20 → op2 oScat (fC (.str a)) f δ = some (.sh (.str (a ++ strI (n : Int)))) := fun {a} ha {δ f n} h hn => scatN (dt_of rfl) h (by have := s20 hn; omega)
  have lit2 : ∀ {a b : Str}, a.length ≤ 30 → b.length ≤ 30 → ∀ {δ : List Sl} {f : EF} {n : Nat}, dt f δ = some (.str (strI (n : Int))) → n < 10 ^ 20 → op2 oScat (op2 oScat (fC (.str a)) f) (fC (.str b)) δ = some (.sh (.str (a ++ strI (n : Int) ++ b))) := fun {a b} ha hb {δ f n} h hn => scatN (dt_of (lit ha h hn)) (dt_of rfl) (by rw [len_app]; have := s20 hn; omega)
  have w1 : ∀ {δ : List Sl}, δ[1]? = some (.sh (.int w)) → fB oStr [(op2 oAdd (fVar 1) (fC (.int 1)))] δ = some (.sh (.str (strI ((w + 1 : Nat) : Int)))) := fun {δ} h => strN (dt_of (addN (a := w) (b := 1) (dt_of (by unfold fVar; rw [h])) (dt_of rfl))) (by omega)
  have m1 : ∀ {δ : List Sl}, δ[2]? = some (.sh (.int many)) → fB oStr [(op2 oAdd (fVar 2) (fC (.int 1)))] δ = some (.sh (.str (strI ((many + 1 : Nat) : Int)))) := fun {δ} h => strN (dt_of (addN (a := many) (b := 1) (dt_of (by unfold fVar; rw [h])) (dt_of rfl))) (by omega)
  let B1 : List Str := [(("fix " : String) : Str) ++ strI ((2 ^ w : Nat) : Int), (("mask 0 " : String) : Str) ++ strI ((2 ^ w : Nat) : Int), (("turn 0 " : String) : Str) ++ strI ((2 ^ w : Nat) : Int), (("up 0 " : String) : Str) ++ strI ((w + 1 : Nat) : Int), (("down 0 " : String) : Str) ++ strI ((w + 1 : Nat) : Int)]
  let B2 : List Str := [(("both 0 " : String) : Str) ++ strI ((many + 1 : Nat) : Int), (("both " : String) : Str) ++ strI ((many + 1 : Nat) : Int) ++ ((" 0" : String) : Str), (("mask " : String) : Str) ++ strI ((many + 1 : Nat) : Int) ++ ((" 0" : String) : Str)]
  let B3 : List Str := ["", " ", "fix", "fix 1 1", "mask 0", "mask 0 0 0", "Fix 0", "fix 00", "mask 0 01"]
  let B4 : List Str := ["up 0  1", "up 0 1 "]
  let B5 : List Str := [" up 0 1", "up -1 0", "fix +1", "fix 1_0", "both 0", "up 0 x", "or 0 0", (("fix " : String) : Str) ++ srep (("9" : String) : Str) 50]
  let B6 : List Str := [(("up 0 " : String) : Str) ++ strI (w : Int), (("both 0 " : String) : Str) ++ strI (many : Int), (("fix " : String) : Str) ++ strI ((2 ^ w - 1 : Nat) : Int), "down 0 0"]
  have fitAll : ∀ z ∈ B1 ++ B2 ++ B3 ++ B4 ++ B5 ++ B6, Fit z := by
    intro z hz
    simp only [List.mem_append] at hz
    rcases hz with ((((hz | hz) | hz) | hz) | hz) | hz
    · simp only [B1, List.mem_cons, List.not_mem_nil, or_false] at hz
      rcases hz with rfl | rfl | rfl | rfl | rfl <;> exact fit_lit (by decide +kernel) (by omega)
    · simp only [B2, List.mem_cons, List.not_mem_nil, or_false] at hz
      rcases hz with rfl | rfl | rfl
      · exact fit_lit (by decide +kernel) (by omega)
      · exact fit_lit2 (by decide +kernel) (by decide +kernel) (by omega)
      · exact fit_lit2 (by decide +kernel) (by decide +kernel) (by omega)
    · exact fit_B (List.all_eq_true.mp (show B3.all fitB = true by decide +kernel) z hz)
    · exact fit_B (List.all_eq_true.mp (show B4.all fitB = true by decide +kernel) z hz)
    · exact fit_B (List.all_eq_true.mp (show B5.all fitB = true by decide +kernel) z hz)
    · simp only [B6, List.mem_cons, List.not_mem_nil, or_false] at hz
      rcases hz with rfl | rfl | rfl | rfl
      · exact fit_lit (by decide +kernel) (by omega)
      · exact fit_lit (by decide +kernel) (by omega)
      · exact fit_lit (by decide +kernel) (by omega)
      · exact fit_B (by decide +kernel)
  have hlen : (B1 ++ B2 ++ B3 ++ B4 ++ B5 ++ B6).length = 31 := rfl
  have hr : m % 31 < 31 := Nat.mod_lt _ (by decide)
  have hget : (B1 ++ B2 ++ B3 ++ B4 ++ B5 ++ B6)[m % 31]? = some ((B1 ++ B2 ++ B3 ++ B4 ++ B5 ++ B6)[m % 31]'(by rw [hlen]; exact hr)) := List.getElem?_eq_getElem _
  refine ⟨(B1 ++ B2 ++ B3 ++ B4 ++ B5 ++ B6)[m % 31]'(by rw [hlen]; exact hr), fitAll _ (List.getElem_mem _), ?_⟩
  have st : ∀ {xs : List Str} {f : EF} {ys : List Str}, (∀ {s4 : Sl}, f [.sh (.int m), .sh (.int w), .sh (.int many), .sh (.str (strI ((2 ^ w : Nat) : Int))), s4] = some (.ow (ys.map .str))) → xs.length + ys.length ≤ 1000 → gSet 4 (fz (fCat (fVar 4) f)) [.sh (.int m), .sh (.int w), .sh (.int many), .sh (.str (strI ((2 ^ w : Nat) : Int))), .sh (.lst (xs.map .str))] = some (.nx [.sh (.int m), .sh (.int w), .sh (.int many), .sh (.str (strI ((2 ^ w : Nat) : Int))), .sh (.lst ((xs ++ ys).map .str))]) := fun {xs f ys} h hl => set_fz (r := .ow ((xs ++ ys).map .str)) (cat_strs (dt_of rfl) h hl) rfl
  have d3 : ∀ {s4 : Sl}, dt (fVar 3) [.sh (.int m), .sh (.int w), .sh (.int many), .sh (.str (strI ((2 ^ w : Nat) : Int))), s4] = some (.str (strI ((2 ^ w : Nat) : Int))) := fun {s4} => dt_of rfl
  refine body_rt (r := (Rs.sh (.str ((B1 ++ B2 ++ B3 ++ B4 ++ B5 ++ B6)[m % 31]'(by rw [hlen]; exact hr)))).out) rfl rfl (seq_nx g3 (seq_nx (set_fz (r := .ow (B1.map .str)) ?_ rfl) (seq_nx (st (xs := B1) (ys := B2) (fun {s4} => ?_) (by simp [B1, B2])) (seq_nx (st (xs := B1 ++ B2) (ys := B3) (fun {s4} => ?_) (by simp [B1, B2, B3])) (seq_nx (st (xs := B1 ++ B2 ++ B3) (ys := B4) (fun {s4} => ?_) (by simp [B1, B2, B3, B4])) (seq_nx (st (xs := B1 ++ B2 ++ B3 ++ B4) (ys := B5) (fun {s4} => ?_) (by simp [B1, B2, B3, B4, B5])) (seq_nx (st (xs := B1 ++ B2 ++ B3 ++ B4 ++ B5) (ys := B6) (fun {s4} => ?_) (by simp [B1, B2, B3, B4, B5, B6])) (ret_of ?_))))))))
  · exact lst_of (rs := B1.map fun z => .sh (.str z)) (evs_cons (r := .sh (.str _)) (lit (by decide +kernel) d3 hp) (evs_cons (r := .sh (.str _)) (lit (by decide +kernel) d3 hp) (evs_cons (r := .sh (.str _)) (lit (by decide +kernel) d3 hp) (evs_cons (r := .sh (.str _)) (lit (by decide +kernel) (dt_of (w1 rfl)) (by omega)) (evs_cons (r := .sh (.str _)) (lit (by decide +kernel) (dt_of (w1 rfl)) (by omega)) evs_nil))))) rfl (by rw [line24]; simp [B1])
  · exact lst_of (rs := B2.map fun z => .sh (.str z)) (evs_cons (r := .sh (.str _)) (lit (by decide +kernel) (dt_of (m1 rfl)) (by omega)) (evs_cons (r := .sh (.str _)) (lit2 (by decide +kernel) (by decide +kernel) (dt_of (m1 rfl)) (by omega)) (evs_cons (r := .sh (.str _)) (lit2 (by decide +kernel) (by decide +kernel) (dt_of (m1 rfl)) (by omega)) evs_nil))) rfl (by rw [line24]; simp [B2])
  · exact lst_of (rs := B3.map fun z => .sh (.str z)) rfl rfl (by rw [line24]; simp [B3])
  · exact lst_of (rs := B4.map fun z => .sh (.str z)) rfl rfl (by rw [line24]; simp [B4])
  · have e9 : op2 oSrep (fC (.str (("9" : String) : Str))) (fC (.int 50)) [.sh (.int m), .sh (.int w), .sh (.int many), .sh (.str (strI ((2 ^ w : Nat) : Int))), s4] = some (.sh (.str (srep (("9" : String) : Str) 50))) := op2_of (dt_of rfl) (dt_of rfl) (by
      show (if okB _ = true then _ else _) = _
      rw [if_pos (okB_of ⟨by decide, by decide, by decide +kernel, by decide +kernel⟩)]
      rfl)
    have e10 : op2 oScat (fC (.str (("fix " : String) : Str))) (op2 oSrep (fC (.str (("9" : String) : Str))) (fC (.int 50))) [.sh (.int m), .sh (.int w), .sh (.int many), .sh (.str (strI ((2 ^ w : Nat) : Int))), s4] = some (.sh (.str ((("fix " : String) : Str) ++ srep (("9" : String) : Str) 50))) := scatN (dt_of rfl) (dt_of e9) (by decide +kernel)
    exact lst_of (rs := B5.map fun z => .sh (.str z)) (evs_cons (r := .sh (.str _)) rfl (evs_cons (r := .sh (.str _)) rfl (evs_cons (r := .sh (.str _)) rfl (evs_cons (r := .sh (.str _)) rfl (evs_cons (r := .sh (.str _)) rfl (evs_cons (r := .sh (.str _)) rfl (evs_cons (r := .sh (.str _)) rfl (evs_cons (r := .sh (.str _)) e10 evs_nil)))))))) rfl (by rw [line24]; simp [B5])
  · exact lst_of (rs := B6.map fun z => .sh (.str z)) (evs_cons (r := .sh (.str _)) (lit (by decide +kernel) (dt_of (strN (n := w) (dt_of rfl) (by omega))) (by omega)) (evs_cons (r := .sh (.str _)) (lit (by decide +kernel) (dt_of (strN (n := many) (dt_of rfl) (by omega))) (by omega)) (evs_cons (r := .sh (.str _)) (lit (by decide +kernel) (dt_of (strN (n := 2 ^ w - 1) (dt_of (subN (a := 2 ^ w) (b := 1) (dt_of (shl1 (b := w) (dt_of rfl) (by omega))) (dt_of rfl) h2w)) (by omega))) (by omega)) (evs_cons (r := .sh (.str _)) rfl evs_nil)))) rfl (by rw [line24]; simp [B6])
  · refine ix_of (a := .lst ((B1 ++ B2 ++ B3 ++ B4 ++ B5 ++ B6).map .str)) (i := ((m % 31 : Nat) : Int)) (dt_of rfl) (dt_of (modN (a := m) (b := 31) (dt_of rfl) (dt_of (fB_of (rs := [.sh (.lst ((B1 ++ B2 ++ B3 ++ B4 ++ B5 ++ B6).map .str))]) (d := .int (31 : Nat)) rfl rfl)) (by decide))) (atI_nat ?_)
    rw [List.getElem?_map, hget]
    rfl
end LW
set_option Elab.async false
set_option linter.all false
set_option maxRecDepth 100000
set_option maxHeartbeats 4000000
namespace LW
open PySem L2 BF
set_option linter.unusedSimpArgs false
theorem parts_map (d : Deed) (hn : ∀ n ∈ numsOf d, n < 10 ^ 20) (s0 : Sl) (rest : List Sl) : mapD (.nm 0) (fB oStr [fVar 0]) (s0 :: rest) (.str (nameOf d) :: nats (numsOf d)) = some ((nameOf d :: (numsOf d).map fun (n : Nat) => strI (n : Int)).map Dm.str) := by
  have : mapD (.nm 0) (fB oStr [fVar 0]) (s0 :: rest) (.str (nameOf d) :: nats (numsOf d)) = some ((.str (nameOf d) :: nats (numsOf d)).map fun x => match x with | .int i => .str (strI i) | x => x) := by
    refine mapD_of _ fun x hx => ⟨_, rfl, ?_⟩
    rcases List.mem_cons.mp hx with rfl | hx
    · exact ⟨.sh (.str (nameOf d)), fB_of (rs := [.sh (.str (nameOf d))]) rfl rfl, rfl⟩
    · unfold nats at hx
      obtain ⟨n, hnm, rfl⟩ := List.mem_map.mp hx
      exact ⟨.sh (.str (strI n)), fB_of (rs := [.sh (.int n)]) rfl (str_part n (hn n hnm)), rfl⟩
  rw [this]
  unfold nats
  simp
theorem line_here {w many : Nat} (hw : w ≤ 64) (hm : many ≤ 1000) (d : Deed) (g : Good w many d) (ix : List (Option Nat)) (rest : List Sl) : fM oJoin (fC (.str ((" " : String) : Str))) [(fComp (iS (fVar 0)) (.nm 0) (none :: ix) (fB oStr [(fVar 0)]))] (.sh (enc d) :: rest) = some (.sh (.str (lineD d))) := by
  have hn := nums_lt hw hm g
  have l2 := nums_len d
  have l4 := name_len d
  refine fM_of (a := .str ((" " : String) : Str)) (rs := [.sh (.lst ((nameOf d :: (numsOf d).map fun (n : Nat) => strI (n : Int)).map Dm.str))]) (dt_of rfl) (evs_cons (r := .ow ((nameOf d :: (numsOf d).map fun (n : Nat) => strI (n : Int)).map Dm.str)) (comp_of (ds := .str (nameOf d) :: nats (numsOf d)) (iS_of (r := .sh (enc d)) rfl (by rw [enc_eq]; rfl)) (by unfold nats; rw [List.length_cons, List.length_map, line24]; omega) (parts_map d hn _ _)) evs_nil) ?_
  have b1 : ∀ (ns : List Nat), (∀ n ∈ ns, n < 10 ^ 20) → ((ns.map fun (n : Nat) => strI (n : Int)).map (·.length)).sum ≤ 20 * ns.length := by
    intro ns
    induction ns with
    | nil => intro _; simp
    | cons n ns ih =>
      intro h
      have a := ih fun x hx => h x (List.mem_cons_of_mem _ hx)
      have b := strI_short (h n List.mem_cons_self)
      simp only [List.map_cons, List.sum_cons, List.length_cons]
      omega
  show ((strsD? _).bind _) = _
  rw [strsD_of, Option.bind_some, if_pos (by
    have := b1 (numsOf d) hn
    rw [List.map_cons, List.sum_cons, List.length_cons, List.length_map, blank_len]
    omega), glued_line]
  rfl
theorem law_loop (w : Nat) (hw : w ≤ 64) (zs : List Str) (hz : ∀ z ∈ zs, Fit z) (hl : zs.length ≤ 100) (S0 S1 S2 S4 : Sl) : ∀ (cs : List Int) (k : Nat) (s6 s7 s8 s9 s10 : Sl), (∀ c ∈ cs, Builtin.Int.intBits c ≤ 1048576) → k + cs.length ≤ 100 →
    ∃ t6 t7 t8 t9 t10, loopD (.tp [6, 7]) B_law_1 (enumFrom k (cs.map .int)) [S0, S1, S2, .sh (.int w), S4, .sh (.lst (zs.map .str)), s6, s7, s8, s9, s10] = some (.nx [S0, S1, S2, .sh (.int w), S4, .sh (.lst (zs.map .str)), t6, t7, t8, t9, t10])
  | [], k, s6, s7, s8, s9, s10, _, _ => ⟨s6, s7, s8, s9, s10, rfl⟩
  | c :: cs, k, s6, s7, s8, s9, s10, hc, hk => by
    rw [List.length_cons] at hk
    obtain ⟨m, em, _⟩ := mixed_ok c (200 + k) (hc c List.mem_cons_self) (by omega)
    have hat : m / 7 % (zs.length + 1) < zs.length + 1 := Nat.mod_lt _ (by omega)
    generalize hA : m / 7 % (zs.length + 1) = A at hat
    obtain ⟨z, fz', ez⟩ := bad_gen (m / 1000) w A hw (by omega)
    obtain ⟨t6, t7, t8, t9, t10, e⟩ := law_loop w hw zs hz hl S0 S1 S2 S4 cs (k + 1) (.sh (.int k)) (.sh (.int c)) (.sh (.int m)) (.sh (.int A)) (.sh (.str z)) (fun x hx => hc x (List.mem_cons_of_mem _ hx)) (by omega)
    have hfit : ∀ y ∈ zs.take A ++ [z] ++ zs.drop (A + m % 2), Fit y := by
      intro y hy
      simp only [List.mem_append, List.mem_singleton] at hy
      rcases hy with (hy | rfl) | hy
      · exact hz y (List.mem_of_mem_take hy)
      · exact fz'
      · exact hz y (List.mem_of_mem_drop hy)
    have hlen : (zs.take A ++ [z] ++ zs.drop (A + m % 2)).length ≤ 400 := by
      rw [List.length_append, List.length_append, List.length_take, List.length_drop, List.length_singleton]; omega
    have hask := asked_gen w hw (zs.take A ++ [z] ++ zs.drop (A + m % 2)) hfit hlen
    refine ⟨t6, t7, t8, t9, t10, loop_cons (δ1 := [S0, S1, S2, .sh (.int w), S4, .sh (.lst (zs.map .str)), .sh (.int k), .sh (.int c), s8, s9, s10]) rfl (seq_nx (set_fz (r := .sh (.int m)) (call_of (rs := [.sh (.int c), .sh (.int (200 + k : Nat))]) (evs_cons (r := .sh (.int c)) rfl (evs_cons (r := .sh (.int (200 + k : Nat))) (addN (a := 200) (b := k) (dt_of rfl) (dt_of rfl)) evs_nil)) em rfl) rfl) (seq_nx (set_sh (d := .int A) ?_) (seq_nx (set_fz (r := .sh (.str z)) (call_of (rs := [.sh (.int (m / 1000 : Nat)), .sh (.int w), .sh (.int A)]) (evs_cons (r := .sh (.int (m / 1000 : Nat))) (divN (a := m) (b := 1000) (dt_of rfl) (dt_of rfl) (by decide) (by decide)) (evs_cons (r := .sh (.int w)) rfl (evs_cons (r := .sh (.int A)) rfl evs_nil))) ez rfl) rfl) (if_f (not_t (bB_of (dt_of (call_of (rs := [.sh (.int w), .sh (.lst ((zs.take A ++ [z] ++ zs.drop (A + m % 2)).map .str))]) (evs_cons (r := .sh (.int w)) rfl (evs_cons (r := .ow ((zs.take A ++ [z] ++ zs.drop (A + m % 2)).map .str)) ?_ evs_nil)) hask rfl)))) nil_nx)))) e⟩
    · rw [← hA]
      exact modN (a := m / 7) (b := zs.length + 1) (dt_of (divN (a := m) (b := 7) (dt_of rfl) (dt_of rfl) (by decide) (by decide))) (dt_of (addN (a := zs.length) (b := 1) (dt_of (fB_of (rs := [.sh (.lst (zs.map .str))]) (d := .int zs.length) rfl (by simp [oLen]))) (dt_of rfl))) (by omega)
    · have hto : ∀ {δ : List Sl}, δ[5]? = some (.sh (.lst (zs.map .str))) → δ[9]? = some (.sh (.int A)) → fSl (fVar 5) pNo (pSome (fVar 9)) δ = some (.ow ((zs.take A).map .str)) := fun {δ} h5 h9 => by
        rw [List.map_take, ← cut_to (zs.map .str) A]
        exact sl_of (dt_of (r := .sh (.lst (zs.map .str))) (by unfold fVar; rw [h5])) rfl (by unfold pSome; rw [dt_of (r := .sh (.int A)) (d := .int A) (by unfold fVar; rw [h9])]; rfl)
      have hfrom : ∀ {δ : List Sl}, δ[5]? = some (.sh (.lst (zs.map .str))) → δ[8]? = some (.sh (.int m)) → δ[9]? = some (.sh (.int A)) → fSl (fVar 5) (pSome (op2 oAdd (fVar 9) (op2 oMod (fVar 8) (fC (.int 2))))) pNo δ = some (.ow ((zs.drop (A + m % 2)).map .str)) := fun {δ} h5 h8 h9 => by
        rw [List.map_drop, ← cut_from (zs.map .str) (A + m % 2)]
        exact sl_of (dt_of (r := .sh (.lst (zs.map .str))) (by unfold fVar; rw [h5])) (by unfold pSome; rw [dt_of (d := .int (A + m % 2 : Nat)) (addN (a := A) (b := m % 2) (dt_of (r := .sh (.int A)) (by unfold fVar; rw [h9])) (dt_of (modN (a := m) (b := 2) (dt_of (r := .sh (.int m)) (by unfold fVar; rw [h8])) (dt_of rfl) (by decide))))]; rfl) rfl
      refine cat_strs (xs := zs.take A ++ [z]) (ys := zs.drop (A + m % 2)) (dt_of (cat_strs (xs := zs.take A) (ys := [z]) (dt_of (hto rfl rfl)) (lst_of (rs := [.sh (.str z)]) rfl rfl (by rw [line24]; simp)) ?_)) (hfrom rfl rfl rfl) ?_
      · rw [List.length_take, List.length_singleton]; omega
      · rw [List.length_append, List.length_take, List.length_drop, List.length_singleton]; omega
theorem law_true (ns : List Int) (h : ns.length ≤ 63) (hb : ∀ n ∈ ns, Builtin.Int.intBits n ≤ 1048576) : F_law [.lst (ns.map .int)] = some (.sh (.bl true)) := by
  obtain ⟨first, hfb, hfirst⟩ : ∃ first : Int, Builtin.Int.intBits first ≤ 1048576 ∧ ∀ S1, (gIf (bB (op2 oGt (fB oLen [(fVar 0)]) (fC (.int 0)))) (gSet 2 (fz (fIx (fVar 0) (fC (.int 0))))) BF.gNil) [.sh (.lst (ns.map .int)), S1, .sh (.int 3), .un, .un, .un, .un, .un, .un, .un, .un] = some (.nx [.sh (.lst (ns.map .int)), S1, .sh (.int first), .un, .un, .un, .un, .un, .un, .un, .un]) := by
    cases ns with
    | nil => exact ⟨3, by decide, fun S1 => if_f (by simp [bodyD, gRet, gSeq, gIf, gSet, gApp, BF.gNil, gFrz, frz, op2, dt, fVar, fC, evs, fTup, fLst, fCall, fB, fIx, ixD, fSl, slD, pNo, pSome, fz, own?, bB, bAnd, bOr, bNot, vAnd, vOr, vNot, fIsi, fList, fNeg, fCat, fRep, oAdd, oSub, oMul, oDiv, oMod, oPow, oShl, oShr, oAnd, oOr, oXor, oLt, oLe, oGt, oGe, oMin, oLen, oSum]) nil_nx⟩
    | cons n t => exact ⟨n, hb n List.mem_cons_self, fun S1 => if_t (by simp [bodyD, gRet, gSeq, gIf, gSet, gApp, BF.gNil, gFrz, frz, op2, dt, fVar, fC, evs, fTup, fLst, fCall, fB, fIx, ixD, fSl, slD, pNo, pSome, fz, own?, bB, bAnd, bOr, bNot, vAnd, vOr, vNot, fIsi, fList, fNeg, fCat, fRep, oAdd, oSub, oMul, oDiv, oMod, oPow, oShl, oShr, oAnd, oOr, oXor, oLt, oLe, oGt, oGe, oMin, oLen, oSum]) (set_fz (r := .sh (.int n)) (ix_of (a := .lst ((n :: t).map .int)) rfl rfl (atI_nat (j := 0) rfl)) rfl)⟩
  obtain ⟨w, hw1, hw2, hw⟩ := width_at (first % 9) (by omega) (by omega)
  have hcb : ∀ c ∈ (ns.drop 1).take 40, Builtin.Int.intBits c ≤ 1048576 := fun c hc => hb c (List.mem_of_mem_drop (List.mem_of_mem_take hc))
  have hcl : ((ns.drop 1).take 40).length ≤ 40 := by rw [List.length_take]; omega
  obtain ⟨ds, hg, hdl, hrows⟩ := rows_ok ((ns.drop 1).take 40) w 40 hw1 hw2 hcb (by omega)
  have hgood : ∀ d ∈ ds, ∃ many, many ≤ 1000 ∧ Good w many d := fun d hd => by
    obtain ⟨i, hi⟩ := List.getElem?_of_mem hd
    have := (List.getElem?_eq_some_iff.mp hi).1
    exact ⟨i + 1, by omega, hg i d hi⟩
  have hfit : ∀ z ∈ ds.map lineD, Fit z := fun z hz => by
    obtain ⟨d, hd, rfl⟩ := List.mem_map.mp hz
    obtain ⟨many, hm, g⟩ := hgood d hd
    exact line_fit hw2 hm g
  have hzl : (ds.map lineD).length ≤ 100 := by rw [List.length_map]; omega
  obtain ⟨t6, t7, t8, t9, t10, eloop⟩ := law_loop w hw2 (ds.map lineD) hfit hzl (.sh (.lst (ns.map .int))) (.sh (.lst (((ns.drop 1).take 40).map .int))) (.sh (.int first)) (.sh (.lst (ds.map enc))) (first :: ((ns.drop 1).take 40).take 11) 0 .un .un .un .un .un (fun c hc => by
    rcases List.mem_cons.mp hc with rfl | hc
    · exact hfb
    · exact hcb c (List.mem_of_mem_take hc)) (by rw [List.length_cons, List.length_take]; omega)
  refine body_rt (r := (Rs.sh (.bl true)).out) (δ := [.sh (.lst (ns.map .int)), .un, .un, .un, .un, .un, .un, .un, .un, .un, .un]) rfl rfl
    (seq_nx (set_fz (r := .ow (((ns.drop 1).take 40).map .int)) ?_ rfl) (seq_nx (set_sh (d := .int 3) rfl) (seq_nx (hfirst _) (seq_nx (set_fz (r := .sh (.int w)) ?_ rfl) (seq_nx (set_fz (r := .ow (ds.map enc)) (call_of (rs := [.sh (.lst (((ns.drop 1).take 40).map .int)), .sh (.int w), .sh (.int 40)]) rfl hrows rfl) rfl)
    (seq_nx (set_fz (r := .ow ((ds.map lineD).map .str)) ?_ rfl)
    (seq_nx (for_of (ds := enumFrom 0 ((first :: ((ns.drop 1).take 40).take 11).map .int)) ?_ eloop)
    (ret_of (vand_t (bB_of (dt_of (call_of (rs := [.sh (.int w), .sh (.lst ((ds.map lineD).map .str))]) rfl (asked_gen w hw2 (ds.map lineD) hfit (by omega)) rfl))) (call_of (rs := [.sh (.int w), .sh (.lst (([] : List Str).map .str))]) (evs_cons (r := .sh (.int w)) rfl (evs_cons (r := .ow []) (lst_of (rs := []) rfl rfl (by rw [line24]; simp)) evs_nil)) (asked_gen w hw2 [] (fun z hz => by simp at hz) (by simp)) rfl))))))))))
  · rw [List.map_take, List.map_drop, ← cut_mid (ns.map .int) 1 41 (by decide)]
    exact sl_of (dt_of rfl) rfl rfl
  · exact ix_of (a := .lst [Dm.int 8, .int 4, .int 16, .int 1, .int 2, .int 32, .int 64, .int 8, .int 4]) (dt_of (lst_of (rs := [.sh (Dm.int 8), .sh (.int 4), .sh (.int 16), .sh (.int 1), .sh (.int 2), .sh (.int 32), .sh (.int 64), .sh (.int 8), .sh (.int 4)]) rfl rfl (by rw [line24]; simp))) (dt_of (op2_of (d := .int (first % 9)) (dt_of rfl) (dt_of rfl) (by simp [oMod]))) hw
  · refine comp_of (ds := ds.map enc) rfl (by rw [List.length_map, line24]; omega) ?_
    rw [List.map_map]
    refine mapD_map enc (fun d => .str (lineD d)) fun d hd => ⟨_, rfl, .sh (.str (lineD d)), ?_, rfl⟩
    obtain ⟨many, hm, g⟩ := hgood d hd
    exact line_here hw2 hm d g _ _
  · refine iE_of (r := .ow ((first :: ((ns.drop 1).take 40).take 11).map .int)) ?_ rfl
    have hs : ∀ {δ : List Sl}, δ[1]? = some (.sh (.lst (((ns.drop 1).take 40).map .int))) → fSl (fVar 1) pNo (pSome (fC (.int 11))) δ = some (.ow ((((ns.drop 1).take 40).take 11).map .int)) := fun {δ} h1 => by
      rw [List.map_take (l := (ns.drop 1).take 40), ← cut_to (((ns.drop 1).take 40).map .int) 11]
      exact sl_of (dt_of (r := .sh (.lst (((ns.drop 1).take 40).map .int))) (by unfold fVar; rw [h1])) rfl rfl
    exact cat_of (xs := [.int first]) (ys := (((ns.drop 1).take 40).take 11).map .int) (dt_of (lst_of (rs := [.sh (.int first)]) rfl rfl (by rw [line24]; simp))) (dt_of (hs rfl)) (by rw [List.length_singleton, List.length_map, List.length_take, line24]; omega)
end LW
set_option Elab.async false
set_option linter.all false
set_option maxRecDepth 100000
set_option maxHeartbeats 8000000
namespace LW
open PySem L2 BF
def top (i : Nat) : Stmt := PySem.Challenge.pw_bitferry_k04_lines_that_write_no_deed.main.body.getD i (.Pass ⟨0, 0, 0, 0⟩)
abbrev s__law_number : Stmt := top 18
abbrev s__law_fine : Stmt := top 19
abbrev s_bounds_of : Stmt := top 10
abbrev s_is_number : Stmt := top 12
abbrev s_number_of : Stmt := top 11
abbrev s_deed_of : Stmt := top 9
abbrev s_read : Stmt := top 8
abbrev s__law_asked : Stmt := top 21
abbrev s__law_bad : Stmt := top 20
abbrev s__law_mixed : Stmt := top 14
abbrev s__law_word : Stmt := top 15
abbrev s__law_deed : Stmt := top 16
abbrev s__law_rows : Stmt := top 17
abbrev s_law : Stmt := top 22
section
variable {P : Program} {w : World} {K : PySem.W.Frag} {mg : Str → Option Value} {base : Heap}
theorem sc__law_number : FnScope ["_law_word_here", "_law_number_here", "_law_sign", "_law_at"] ["_law_word_here"] (defScope s__law_number) := ⟨rfl, rfl, rfl, by decide +kernel, rfl, by decide +kernel, by decide +kernel⟩
theorem ok__law_number {f__law_number : Addr} {fd__law_number : FuncData} (D__law_number : Def1 K mg "_law_number" s__law_number f__law_number fd__law_number ["_law_word_here"]) :
    FnOk P w K mg base CX0 1 f__law_number fd__law_number ["_law_word_here"] (spD K F__law_number) := by
  refine fnD D__law_number.fn sc__law_number fun cdv A outer s H E hr => ?_
  exact (psd_cons (psd_if (PWD.t (pwd_or (pt_eq hr.units (pd_var 0) pd_str) (pw1_or (PWD.t (pwd_and (pt_eq hr.units (pd_ix (pd_var 0) pd_int) pd_str) (pw1_and (pt_ne hr.units (pd_var 0) pd_str)))))))
      (psd_one (psd_ret (pd_neg pd_int)))
      psd_nil)
      (psd_cons (psd_set (i := 1) sc__law_number.nd rfl (by first | exact Or.inl rfl | exact Or.inr rfl) pd_int)
      (psd_cons (psd_for PassesOwn.never rfl (pi_s (pd_var 0)) (pg_n 2 sc__law_number.nd)
      (psd_cons (psd_set (i := 3) sc__law_number.nd rfl (by first | exact Or.inl rfl | exact Or.inr rfl) (PD.fz (pd_m PySem.F.slot_str_find PySem.F.type_str_find mt_find ms_find oFind_str pd_str (pad_cons (pd_var 2) pad_nil))))
      (psd_cons (psd_if (pt_lt (pd_var 3) pd_int)
      (psd_one (psd_ret (pd_neg pd_int)))
      psd_nil)
      (psd_one (psd_set (i := 1) sc__law_number.nd rfl (by first | exact Or.inl rfl | exact Or.inr rfl) (pd_add (pd_mul pd_int (pd_var 1)) (pd_var 3)))))))
      (psd_one (psd_ret (pd_var 1))))))
theorem sc__law_fine : FnScope ["_law_width", "_law_lines", "_law_many", "_law_line", "_law_words", "_law_numbers", "_law_most"] ["_law_width", "_law_lines"] (defScope s__law_fine) := ⟨rfl, rfl, rfl, by decide +kernel, rfl, by decide +kernel, by decide +kernel⟩
theorem ok__law_fine {f__law_fine : Addr} {fd__law_fine : FuncData} (D__law_fine : Def1 K mg "_law_fine" s__law_fine f__law_fine fd__law_fine ["_law_width", "_law_lines"]) {f__law_number : Addr} {fd__law_number : FuncData} (D__law_number : Def1 K mg "_law_number" s__law_number f__law_number fd__law_number ["_law_word_here"]) (G__law_number : FnOk P w K mg base CX0 1 f__law_number fd__law_number ["_law_word_here"] (spD K F__law_number)) (z_enumerate : mg "enumerate" = none) (z_len : mg "len" = none) (z_min : mg "min" = none) :
    FnOk P w K mg base CX0 2 f__law_fine fd__law_fine ["_law_width", "_law_lines"] (spD K F__law_fine) := by
  refine fnD D__law_fine.fn sc__law_fine fun cdv A outer s H E hr => ?_
  exact (psd_cons (psd_for PassesOwn.never rfl (pi_e (pd_var 1) (by rfl) z_enumerate bo_enumerate) (pg_t rfl (pgs_c 2 (pgs_c 3 pgs_n sc__law_fine.nd) sc__law_fine.nd))
      (psd_cons (psd_set (i := 4) sc__law_fine.nd rfl (by first | exact Or.inl rfl | exact Or.inr rfl) (PD.fz (pd_split (pd_var 3) pd_str)))
      (psd_cons (psd_setCompF rfl (compOk_mk (N := ["_law_width", "_law_lines", "_law_many", "_law_line", "_law_words", "_law_numbers", "_law_most"]) (sc := defScope s__law_fine) (N' := ["_law_word_here", "_law_width", "_law_lines", "_law_many", "_law_line", "_law_words", "_law_numbers", "_law_most"]) (ix := [none, some 0, some 1, some 2, some 3, some 4, some 5, some 6]) (by decide +kernel)) (inj_of (by decide +kernel)) (own_of (t := (.nm 0)) (by decide +kernel)) (pi_l (pd_sl (pd_var 4) (po_at pd_int) po_no)) (fun _ _ _ _ => (pg_n 0 (nd_of (N := ["_law_word_here", "_law_width", "_law_lines", "_law_many", "_law_line", "_law_words", "_law_numbers", "_law_most"]) (by decide +kernel)))) (fun _ _ _ _ => (pd_call G__law_number (hr.mono (by decide)) (by rfl) D__law_number.mg D__law_number.fn.kp D__law_number.bi (pad_cons (pd_var 0) pad_nil))) sc__law_fine.nd rfl (by first | exact Or.inl rfl | exact Or.inr rfl))
      (psd_cons (psd_if (PWD.t (pwd_or (pt_eq hr.units (pd_bi call_len cs_len (by rfl) z_len bo_len (pad_cons (pd_var 5) pad_nil)) pd_int) (pw1_or (pt_lt (pd_bi (call_minL rfl) cs_minL (by rfl) z_min bo_min (pad_cons (pd_var 5) pad_nil)) pd_int))))
      (psd_one (psd_ret pd_bl))
      psd_nil)
      (psd_one (psd_if (pt_eq hr.units (pd_ix (pd_var 4) pd_int) pd_str)
      (psd_one (psd_if (PWD.t (pwd_or (pt_ne hr.units (pd_bi call_len cs_len (by rfl) z_len bo_len (pad_cons (pd_var 5) pad_nil)) pd_int) (pw1_or (pt_ge (pd_ix (pd_var 5) pd_int) (pd_shl pd_int (pd_var 0))))))
      (psd_one (psd_ret pd_bl))
      psd_nil))
      (psd_one (psd_if (pt_in (pd_ix (pd_var 4) pd_int) (pd_tup (pad_cons pd_str (pad_cons pd_str (pad_cons pd_str (pad_cons pd_str (pad_cons pd_str pad_nil)))))) (by rfl))
      (psd_cons (psd_set (i := 6) sc__law_fine.nd rfl (by first | exact Or.inl rfl | exact Or.inr rfl) (PD.fz (pd_var 0)))
      (psd_cons (psd_if (pt_in (pd_ix (pd_var 4) pd_int) (pd_tup (pad_cons pd_str (pad_cons pd_str pad_nil))) (by rfl))
      (psd_one (psd_set (i := 6) sc__law_fine.nd rfl (by first | exact Or.inl rfl | exact Or.inr rfl) (pd_sub (pd_shl pd_int (pd_var 0)) pd_int)))
      psd_nil)
      (psd_cons (psd_if (pt_eq hr.units (pd_ix (pd_var 4) pd_int) pd_str)
      (psd_one (psd_set (i := 6) sc__law_fine.nd rfl (by first | exact Or.inl rfl | exact Or.inr rfl) (PD.fz (pd_var 2))))
      psd_nil)
      (psd_one (psd_if (PWD.t (pwd_or (pt_ne hr.units (pd_bi call_len cs_len (by rfl) z_len bo_len (pad_cons (pd_var 5) pad_nil)) pd_int) (pwd_or (pt_gt (pd_ix (pd_var 5) pd_int) (pd_var 2)) (pw1_or (pt_gt (pd_ix (pd_var 5) pd_int) (pd_var 6))))))
      (psd_one (psd_ret pd_bl))
      psd_nil)))))
      (psd_one (psd_ret pd_bl))))))))))
      (psd_one (psd_ret pd_bl)))
theorem sc_bounds_of : FnScope ["width", "name", "ahead", "every"] ["width", "name", "ahead"] (defScope s_bounds_of) := ⟨rfl, rfl, rfl, by decide +kernel, rfl, by decide +kernel, by decide +kernel⟩
theorem ok_bounds_of {f_bounds_of : Addr} {fd_bounds_of : FuncData} (D_bounds_of : Def1 K mg "bounds_of" s_bounds_of f_bounds_of fd_bounds_of ["width", "name", "ahead"]) {C_NoDeed : Addr} (m_NoDeed : mg "NoDeed" = some (.ref C_NoDeed)) (x_NoDeed : PySem.W.excIn K C_NoDeed bmVE "ValueError.__new__" = true) :
    FnOk P w K mg base (CX1 P w mg) 1 f_bounds_of fd_bounds_of ["width", "name", "ahead"] (spX K mg F_bounds_of) := by
  refine fnX D_bounds_of.fn sc_bounds_of fun cdv A outer s H E hr => ?_
  exact (psx_cons (psx_lift (psd_set (i := 3) sc_bounds_of.nd rfl (by first | exact Or.inl rfl | exact Or.inr rfl) (pd_sub (pd_shl pd_int (pd_var 0)) pd_int)))
      (psx_cons (psx_lift (psd_if (pt_eq hr.units (pd_var 1) pd_str)
      (psd_one (psd_ret (pd_lst (pad_cons (pd_var 3) pad_nil))))
      psd_nil))
      (psx_cons (psx_lift (psd_if (pt_in (pd_var 1) (pd_tup (pad_cons pd_str (pad_cons pd_str pad_nil))) (by rfl))
      (psd_one (psd_ret (pd_lst (pad_cons (pd_var 2) (pad_cons (pd_var 3) pad_nil)))))
      psd_nil))
      (psx_cons (psx_lift (psd_if (pt_eq hr.units (pd_var 1) pd_str)
      (psd_one (psd_ret (pd_lst (pad_cons (pd_var 2) (pad_cons (pd_var 2) pad_nil)))))
      psd_nil))
      (psx_cons (psx_lift (psd_if (pt_in (pd_var 1) (pd_tup (pad_cons pd_str (pad_cons pd_str pad_nil))) (by rfl))
      (psd_one (psd_ret (pd_lst (pad_cons (pd_var 2) (pad_cons (pd_var 0) pad_nil)))))
      psd_nil))
      (psx_one (psx_raise xr_cxOf blw_cxOf rfl (by rfl) m_NoDeed x_NoDeed (pd_js (PJ.cons pd_str (PJ.cons (pd_fvr (pd_var 1)) PJ.nil))))))))))
theorem sc_is_number : FnScope ["part"] ["part"] (defScope s_is_number) := ⟨rfl, rfl, rfl, by decide +kernel, rfl, by decide +kernel, by decide +kernel⟩
theorem ok_is_number {f_is_number : Addr} {fd_is_number : FuncData} (D_is_number : Def1 K mg "is_number" s_is_number f_is_number fd_is_number ["part"]) (z_all : mg "all" = none) {u_FIGURES : Tok} (g_FIGURES : mg "FIGURES" = some (.str "0123456789" u_FIGURES)) :
    FnOk P w K mg base CX0 1 f_is_number fd_is_number ["part"] (spD K F_is_number) := by
  refine fnD D_is_number.fn sc_is_number fun cdv A outer s H E hr => ?_
  exact (psd_cons (psd_if (PWD.t (pwd_or (pt_eq hr.units (pd_var 0) pd_str) (pw1_or (PWD.t (pwd_and (pt_eq hr.units (pd_ix (pd_var 0) pd_int) pd_str) (pw1_and (pt_ne hr.units (pd_var 0) pd_str)))))))
      (psd_one (psd_ret pd_bl))
      psd_nil)
      (psd_one (psd_ret (pd_bi (call_all rfl) cs_all (by rfl) z_all bo_all (pad_cons (pd_comp rfl (compOk_mk (N := ["part"]) (sc := defScope s_is_number) (N' := ["sign", "part"]) (ix := [none, some 0]) (by decide +kernel)) (inj_of (by decide +kernel)) (own_of (t := (.nm 0)) (by decide +kernel)) (pi_s (pd_var 0)) (fun _ _ _ _ => (pg_n 0 (nd_of (N := ["sign", "part"]) (by decide +kernel)))) (fun _ _ _ _ => (pd_in (pd_var 0) (pd_glob (d := .str "0123456789") (by rfl) g_FIGURES rfl (by first | exact ⟨_, rfl⟩ | exact rfl)) (by rfl)))) pad_nil)))))
theorem sc_number_of : FnScope ["part", "most"] ["part", "most"] (defScope s_number_of) := ⟨rfl, rfl, rfl, by decide +kernel, rfl, by decide +kernel, by decide +kernel⟩
theorem ok_number_of {f_number_of : Addr} {fd_number_of : FuncData} (D_number_of : Def1 K mg "number_of" s_number_of f_number_of fd_number_of ["part", "most"]) {f_is_number : Addr} {fd_is_number : FuncData} (D_is_number : Def1 K mg "is_number" s_is_number f_is_number fd_is_number ["part"]) (G_is_number : FnOk P w K mg base CX0 1 f_is_number fd_is_number ["part"] (spD K F_is_number)) (z_int : mg "int" = none) (z_len : mg "len" = none) (z_str : mg "str" = none) {C_NoDeed : Addr} (m_NoDeed : mg "NoDeed" = some (.ref C_NoDeed)) (x_NoDeed : PySem.W.excIn K C_NoDeed bmVE "ValueError.__new__" = true) :
    FnOk P w K mg base (CX1 P w mg) 2 f_number_of fd_number_of ["part", "most"] (spX K mg F_number_of) := by
  refine fnX D_number_of.fn sc_number_of fun cdv A outer s H E hr => ?_
  exact (psx_cons (psx_if (ptd_not (pt_of (pd_call G_is_number (hr.mono (by decide)) (by rfl) D_is_number.mg D_is_number.fn.kp D_is_number.bi (pad_cons (pd_var 0) pad_nil))))
      (psx_one (psx_raise xr_cxOf blw_cxOf rfl (by rfl) m_NoDeed x_NoDeed (pd_js (PJ.cons pd_str (PJ.cons (pd_fvr (pd_var 0)) PJ.nil)))))
      pssx_nil)
      (psx_cons (psx_if (PWD.t (pwd_or (pt_gt (pd_bi call_len cs_len (by rfl) z_len bo_len (pad_cons (pd_var 0) pad_nil)) (pd_bi call_len cs_len (by rfl) z_len bo_len (pad_cons (pd_ty call_strs cs_str (by rfl) z_str bo_str (pad_cons (pd_var 1) pad_nil)) pad_nil))) (pw1_or (pt_gt (pd_ty call_ints cs_int (by rfl) z_int bo_int (pad_cons (pd_var 0) pad_nil)) (pd_var 1)))))
      (psx_one (psx_raise xr_cxOf blw_cxOf rfl (by rfl) m_NoDeed x_NoDeed (pd_js (PJ.cons pd_str (PJ.cons (pd_fvp (pd_var 1)) (PJ.cons pd_str (PJ.cons (pd_fvr (pd_var 0)) PJ.nil)))))))
      pssx_nil)
      (psx_one (psx_lift (psd_ret (pd_ty call_ints cs_int (by rfl) z_int bo_int (pad_cons (pd_var 0) pad_nil)))))))
theorem sc_deed_of : FnScope ["width", "line", "ahead", "parts", "bounds", "numbers"] ["width", "line", "ahead"] (defScope s_deed_of) := ⟨rfl, rfl, rfl, by decide +kernel, rfl, by decide +kernel, by decide +kernel⟩
theorem ok_deed_of {f_deed_of : Addr} {fd_deed_of : FuncData} (D_deed_of : Def1 K mg "deed_of" s_deed_of f_deed_of fd_deed_of ["width", "line", "ahead"]) {f_bounds_of : Addr} {fd_bounds_of : FuncData} (D_bounds_of : Def1 K mg "bounds_of" s_bounds_of f_bounds_of fd_bounds_of ["width", "name", "ahead"]) (G_bounds_of : FnOk P w K mg base (CX1 P w mg) 1 f_bounds_of fd_bounds_of ["width", "name", "ahead"] (spX K mg F_bounds_of)) {f_number_of : Addr} {fd_number_of : FuncData} (D_number_of : Def1 K mg "number_of" s_number_of f_number_of fd_number_of ["part", "most"]) (G_number_of : FnOk P w K mg base (CX1 P w mg) 2 f_number_of fd_number_of ["part", "most"] (spX K mg F_number_of)) (z_len : mg "len" = none) (z_tuple : mg "tuple" = none) (z_zip : mg "zip" = none) {C_NoDeed : Addr} (m_NoDeed : mg "NoDeed" = some (.ref C_NoDeed)) (x_NoDeed : PySem.W.excIn K C_NoDeed bmVE "ValueError.__new__" = true) :
    FnOk P w K mg base (CX1 P w mg) 3 f_deed_of fd_deed_of ["width", "line", "ahead"] (spX K mg F_deed_of) := by
  refine fnX D_deed_of.fn sc_deed_of fun cdv A outer s H E hr => ?_
  exact (psx_cons (psx_lift (psd_set (i := 3) sc_deed_of.nd rfl (by first | exact Or.inl rfl | exact Or.inr rfl) (PD.fz (pd_split (pd_var 1) pd_str))))
      (psx_cons (psx_set (i := 4) sc_deed_of.nd rfl (by first | exact Or.inl rfl | exact Or.inr rfl) (PDX.fz (pdx_call xr_cxOf blw_cxOf G_bounds_of (hr.mono (by decide)) (by rfl) D_bounds_of.mg D_bounds_of.fn.kp D_bounds_of.bi (pad_cons (pd_var 0) (pad_cons (pd_ix (pd_var 3) pd_int) (pad_cons (pd_var 2) pad_nil))))))
      (psx_cons (psx_if (pt_ne hr.units (pd_bi call_len cs_len (by rfl) z_len bo_len (pad_cons (pd_var 3) pad_nil)) (pd_add (pd_bi call_len cs_len (by rfl) z_len bo_len (pad_cons (pd_var 4) pad_nil)) pd_int))
      (psx_one (psx_raise xr_cxOf blw_cxOf rfl (by rfl) m_NoDeed x_NoDeed (pd_js (PJ.cons pd_str (PJ.cons (pd_fvr (pd_var 1)) PJ.nil)))))
      pssx_nil)
      (psx_cons (psx_setCompF dfc_cxOf xr_cxOf (compOk_mk (N := ["width", "line", "ahead", "parts", "bounds", "numbers"]) (sc := defScope s_deed_of) (N' := ["part", "most", "width", "line", "ahead", "parts", "bounds", "numbers"]) (ix := [none, none, some 0, some 1, some 2, some 3, some 4, some 5]) (by decide +kernel)) (inj_of (by decide +kernel)) (own_of (t := (.tp [0, 1])) (by decide +kernel)) (pi_z (pd_sl (pd_var 3) (po_at pd_int) po_no) (pd_var 4) (by rfl) z_zip bo_zip) (fun _ _ _ _ _ => (pg_t rfl (pgs_c 0 (pgs_c 1 pgs_n (nd_of (N := ["part", "most", "width", "line", "ahead", "parts", "bounds", "numbers"]) (by decide +kernel))) (nd_of (N := ["part", "most", "width", "line", "ahead", "parts", "bounds", "numbers"]) (by decide +kernel))))) (fun _ _ _ _ _ _ xr bl => (pdx_call xr bl G_number_of (hr.mono (by decide)) (by rfl) D_number_of.mg D_number_of.fn.kp D_number_of.bi (pad_cons (pd_var 0) (pad_cons (pd_var 1) pad_nil)))) sc_deed_of.nd rfl (by first | exact Or.inl rfl | exact Or.inr rfl))
      (psx_one (psx_lift (psd_ret (pd_tuple (pd_cat (pd_lst (pad_cons (pd_ix (pd_var 3) pd_int) pad_nil)) (pd_var 5)) (by rfl) z_tuple bo_tuple))))))))
theorem sc_read : FnScope ["width", "lines", "rows", "line"] ["width", "lines"] (defScope s_read) := ⟨rfl, rfl, rfl, by decide +kernel, rfl, by decide +kernel, by decide +kernel⟩
theorem ok_read {f_read : Addr} {fd_read : FuncData} (D_read : Def1 K mg "read" s_read f_read fd_read ["width", "lines"]) {f_deed_of : Addr} {fd_deed_of : FuncData} (D_deed_of : Def1 K mg "deed_of" s_deed_of f_deed_of fd_deed_of ["width", "line", "ahead"]) (G_deed_of : FnOk P w K mg base (CX1 P w mg) 3 f_deed_of fd_deed_of ["width", "line", "ahead"] (spX K mg F_deed_of)) (z_len : mg "len" = none) :
    FnOk P w K mg base (CX1 P w mg) 4 f_read fd_read ["width", "lines"] (spX K mg F_read) := by
  refine fnX D_read.fn sc_read fun cdv A outer s H E hr => ?_
  exact (psx_cons (psx_lift (psd_set (i := 2) sc_read.nd rfl (by first | exact Or.inl rfl | exact Or.inr rfl) (pd_lst pad_nil)))
      (psx_cons (psx_for passes_cxOf rfl (pi_s (pd_var 1)) (pg_n 3 sc_read.nd)
      (psx_one (psx_app 2 (pv 2) (pdx_call xr_cxOf blw_cxOf G_deed_of (hr.mono (by decide)) (by rfl) D_deed_of.mg D_deed_of.fn.kp D_deed_of.bi (pad_cons (pd_var 0) (pad_cons (pd_var 3) (pad_cons (pd_bi call_len cs_len (by rfl) z_len bo_len (pad_cons (pd_var 2) pad_nil)) pad_nil)))))))
      (psx_one (psx_lift (psd_ret (pd_var 2))))))
theorem sc__law_asked : FnScope ["_law_width", "_law_lines", "_law_found", "_law_fault", "_law_handed", "e"] ["_law_width", "_law_lines"] (defScope s__law_asked) := ⟨rfl, rfl, rfl, by decide +kernel, rfl, by decide +kernel, by decide +kernel⟩
theorem ok__law_asked {f__law_asked : Addr} {fd__law_asked : FuncData} (D__law_asked : Def1 K mg "_law_asked" s__law_asked f__law_asked fd__law_asked ["_law_width", "_law_lines"]) {f__law_fine : Addr} {fd__law_fine : FuncData} (D__law_fine : Def1 K mg "_law_fine" s__law_fine f__law_fine fd__law_fine ["_law_width", "_law_lines"]) (G__law_fine : FnOk P w K mg base CX0 2 f__law_fine fd__law_fine ["_law_width", "_law_lines"] (spD K F__law_fine)) {f_read : Addr} {fd_read : FuncData} (D_read : Def1 K mg "read" s_read f_read fd_read ["width", "lines"]) (G_read : FnOk P w K mg base (CX1 P w mg) 4 f_read fd_read ["width", "lines"] (spX K mg F_read)) (z_ValueError : mg "ValueError" = none) (z_isinstance : mg "isinstance" = none) (z_len : mg "len" = none) (z_list : mg "list" = none) {C_FerryError : Addr} {C_NoDeed : Addr} {C_NoLine : Addr} {C_NoOrder : Addr} {C_NoWay : Addr} (i_NoDeed_FerryError : PySem.W.kitOne K (.ref C_NoDeed) (.ref C_FerryError) = some true) (i_NoDeed_ValueError : PySem.W.kitOne K (.ref C_NoDeed) (.type "ValueError") = some true) (i_none_FerryError : PySem.W.kitOne K (.type "NoneType") (.ref C_FerryError) = some false) (i_none_ValueError : PySem.W.kitOne K (.type "NoneType") (.type "ValueError") = some false) (m_FerryError : mg "FerryError" = some (.ref C_FerryError)) (m_NoDeed : mg "NoDeed" = some (.ref C_NoDeed)) (m_NoLine : mg "NoLine" = some (.ref C_NoLine)) (m_NoOrder : mg "NoOrder" = some (.ref C_NoOrder)) (m_NoWay : mg "NoWay" = some (.ref C_NoWay)) (n_NoDeed : clsK K "NoDeed" = some C_NoDeed) (q_NoDeed : XcC K C_NoDeed) (s_NoDeed_NoDeed : subIn K C_NoDeed C_NoDeed) (t_NoDeed_NoLine_NoOrder_NoWay : PySem.W.kitAny K (.ref C_NoDeed) [Value.ref C_NoLine, Value.ref C_NoOrder, Value.ref C_NoWay] = some false) (t_none_NoLine_NoOrder_NoWay : PySem.W.kitAny K (.type "NoneType") [Value.ref C_NoLine, Value.ref C_NoOrder, Value.ref C_NoWay] = some false) (x_NoDeed : PySem.W.excIn K C_NoDeed bmVE "ValueError.__new__" = true) :
    FnOk P w K mg base CX0 5 f__law_asked fd__law_asked ["_law_width", "_law_lines"] (spD K F__law_asked) := by
  refine fnD D__law_asked.fn sc__law_asked fun cdv A outer s H E hr => ?_
  exact (psd_cons (psd_set (i := 2) sc__law_asked.nd rfl (by first | exact Or.inl rfl | exact Or.inr rfl) (PD.fz pd_non))
      (psd_cons (psd_set (i := 3) sc__law_asked.nd rfl (by first | exact Or.inl rfl | exact Or.inr rfl) (PD.fz pd_non))
      (psd_cons (psd_set (i := 4) sc__law_asked.nd rfl (by first | exact Or.inl rfl | exact Or.inr rfl) (PD.fz (pd_list (pd_var 1) (by rfl) z_list bo_list)))
      (psd_cons (psd_try (i := 2) (j := 3) (l := 5) (cs := ["NoDeed"]) (dfc_nox dfc_cxOf) sc__law_asked.nd rfl (by first | exact Or.inl rfl | exact Or.inr rfl) rfl (by first | exact Or.inl rfl | exact Or.inr rfl) rfl rfl (by decide) (by rfl) m_NoDeed x_NoDeed (List.forall_mem_cons.mpr ⟨⟨C_NoDeed, m_NoDeed, n_NoDeed, x_NoDeed, s_NoDeed_NoDeed⟩, (fun _ z => absurd z List.not_mem_nil)⟩) (fun E pl P0 EX xr bl => (PDX.fz (pdx_call xr bl G_read (hr.mono (by decide)) (by rfl) D_read.mg D_read.fn.kp D_read.bi (pad_cons (pd_var 0) (pad_cons (pd_var 4) pad_nil))))))
      (psd_cons (psd_if (pt_ne hr.units (pd_var 4) (pd_var 1))
      (psd_one (psd_ret pd_bl))
      psd_nil)
      (psd_cons (psd_if (pt_of (pd_call G__law_fine (hr.mono (by decide)) (by rfl) D__law_fine.mg D__law_fine.fn.kp D__law_fine.bi (pad_cons (pd_var 0) (pad_cons (pd_var 1) pad_nil))))
      (psd_one (psd_ret (pd_and (pd_isNx 3 (pv 3)) (pd_and (pd_isi (c := "list") (pd_var 2) (by decide) (by rfl) z_isinstance bo_isinstance (by rfl) z_list bo_list) (pd_one (pd_eq hr.units (pd_bi call_len cs_len (by rfl) z_len bo_len (pad_cons (pd_var 2) pad_nil)) (pd_bi call_len cs_len (by rfl) z_len bo_len (pad_cons (pd_var 1) pad_nil))))))))
      psd_nil)
      (psd_cons (psd_if (pt_of (pd_isxT (Cs := [C_NoLine, C_NoOrder, C_NoWay]) 3 (pv 3) (PCs.cons (pe_cls (by rfl) m_NoLine) rfl (PCs.cons (pe_cls (by rfl) m_NoOrder) rfl (PCs.cons (pe_cls (by rfl) m_NoWay) rfl PCs.nil))) (by simp) t_none_NoLine_NoOrder_NoWay (List.forall_mem_cons.mpr ⟨⟨C_NoDeed, n_NoDeed, q_NoDeed, t_NoDeed_NoLine_NoOrder_NoWay⟩, (fun _ z => absurd z List.not_mem_nil)⟩) (by rfl) z_isinstance bo_isinstance))
      (psd_one (psd_ret pd_bl))
      psd_nil)
      (psd_one (psd_ret (pd_and (pd_isx (y := (.ref C_FerryError)) (dv := (.ref C_FerryError)) 3 (pv 3) (pe_cls (by rfl) m_FerryError) rfl (fun _ h => h) i_none_FerryError (List.forall_mem_cons.mpr ⟨⟨C_NoDeed, n_NoDeed, q_NoDeed, i_NoDeed_FerryError⟩, (fun _ z => absurd z List.not_mem_nil)⟩) (by rfl) z_isinstance bo_isinstance) (pd_one (pd_isx (y := (.ty "ValueError")) (dv := (.type "ValueError")) 3 (pv 3) (pe_bltn (v := .ty "ValueError") (by rfl) z_ValueError bo_ValueError rfl (by decide +kernel) (by decide +kernel)) rfl (fun _ h => h) i_none_ValueError (List.forall_mem_cons.mpr ⟨⟨C_NoDeed, n_NoDeed, q_NoDeed, i_NoDeed_ValueError⟩, (fun _ z => absurd z List.not_mem_nil)⟩) (by rfl) z_isinstance bo_isinstance))))))))))))
theorem sc__law_bad : FnScope ["_law_mixed_here", "_law_width", "_law_many", "_law_great", "_law_some"] ["_law_mixed_here", "_law_width", "_law_many"] (defScope s__law_bad) := ⟨rfl, rfl, rfl, by decide +kernel, rfl, by decide +kernel, by decide +kernel⟩
theorem ok__law_bad {f__law_bad : Addr} {fd__law_bad : FuncData} (D__law_bad : Def1 K mg "_law_bad" s__law_bad f__law_bad fd__law_bad ["_law_mixed_here", "_law_width", "_law_many"]) (z_len : mg "len" = none) (z_str : mg "str" = none) :
    FnOk P w K mg base CX0 1 f__law_bad fd__law_bad ["_law_mixed_here", "_law_width", "_law_many"] (spD K F__law_bad) := by
  refine fnD D__law_bad.fn sc__law_bad fun cdv A outer s H E hr => ?_
  exact (psd_cons (psd_set (i := 3) sc__law_bad.nd rfl (by first | exact Or.inl rfl | exact Or.inr rfl) (pd_ty call_strs cs_str (by rfl) z_str bo_str (pad_cons (pd_shl pd_int (pd_var 1)) pad_nil)))
      (psd_cons (psd_set (i := 4) sc__law_bad.nd rfl (by first | exact Or.inl rfl | exact Or.inr rfl) (PD.fz (pd_lst (pad_cons (pd_scat pd_str (pd_var 3)) (pad_cons (pd_scat pd_str (pd_var 3)) (pad_cons (pd_scat pd_str (pd_var 3)) (pad_cons (pd_scat pd_str (pd_ty call_strs cs_str (by rfl) z_str bo_str (pad_cons (pd_add (pd_var 1) pd_int) pad_nil))) (pad_cons (pd_scat pd_str (pd_ty call_strs cs_str (by rfl) z_str bo_str (pad_cons (pd_add (pd_var 1) pd_int) pad_nil))) pad_nil))))))))
      (psd_cons (psd_set (i := 4) sc__law_bad.nd rfl (by first | exact Or.inl rfl | exact Or.inr rfl) (PD.fz (pd_cat (pd_var 4) (pd_lst (pad_cons (pd_scat pd_str (pd_ty call_strs cs_str (by rfl) z_str bo_str (pad_cons (pd_add (pd_var 2) pd_int) pad_nil))) (pad_cons (pd_scat (pd_scat pd_str (pd_ty call_strs cs_str (by rfl) z_str bo_str (pad_cons (pd_add (pd_var 2) pd_int) pad_nil))) pd_str) (pad_cons (pd_scat (pd_scat pd_str (pd_ty call_strs cs_str (by rfl) z_str bo_str (pad_cons (pd_add (pd_var 2) pd_int) pad_nil))) pd_str) pad_nil)))))))
      (psd_cons (psd_set (i := 4) sc__law_bad.nd rfl (by first | exact Or.inl rfl | exact Or.inr rfl) (PD.fz (pd_cat (pd_var 4) (pd_lst (pad_cons pd_str (pad_cons pd_str (pad_cons pd_str (pad_cons pd_str (pad_cons pd_str (pad_cons pd_str (pad_cons pd_str (pad_cons pd_str (pad_cons pd_str pad_nil)))))))))))))
      (psd_cons (psd_set (i := 4) sc__law_bad.nd rfl (by first | exact Or.inl rfl | exact Or.inr rfl) (PD.fz (pd_cat (pd_var 4) (pd_lst (pad_cons pd_str (pad_cons pd_str pad_nil))))))
      (psd_cons (psd_set (i := 4) sc__law_bad.nd rfl (by first | exact Or.inl rfl | exact Or.inr rfl) (PD.fz (pd_cat (pd_var 4) (pd_lst (pad_cons pd_str (pad_cons pd_str (pad_cons pd_str (pad_cons pd_str (pad_cons pd_str (pad_cons pd_str (pad_cons pd_str (pad_cons (pd_scat pd_str (pd_srep pd_str pd_int)) pad_nil))))))))))))
      (psd_cons (psd_set (i := 4) sc__law_bad.nd rfl (by first | exact Or.inl rfl | exact Or.inr rfl) (PD.fz (pd_cat (pd_var 4) (pd_lst (pad_cons (pd_scat pd_str (pd_ty call_strs cs_str (by rfl) z_str bo_str (pad_cons (pd_var 1) pad_nil))) (pad_cons (pd_scat pd_str (pd_ty call_strs cs_str (by rfl) z_str bo_str (pad_cons (pd_var 2) pad_nil))) (pad_cons (pd_scat pd_str (pd_ty call_strs cs_str (by rfl) z_str bo_str (pad_cons (pd_sub (pd_shl pd_int (pd_var 1)) pd_int) pad_nil))) (pad_cons pd_str pad_nil))))))))
      (psd_one (psd_ret (pd_ix (pd_var 4) (pd_mod (pd_var 0) (pd_bi call_len cs_len (by rfl) z_len bo_len (pad_cons (pd_var 4) pad_nil)))))))))))))
theorem sc__law_mixed : FnScope ["_law_cell", "_law_k", "_law_number_here"] ["_law_cell", "_law_k"] (defScope s__law_mixed) := ⟨rfl, rfl, rfl, by decide +kernel, rfl, by decide +kernel, by decide +kernel⟩
theorem ok__law_mixed {f__law_mixed : Addr} {fd__law_mixed : FuncData} (D__law_mixed : Def1 K mg "_law_mixed" s__law_mixed f__law_mixed fd__law_mixed ["_law_cell", "_law_k"]) :
    FnOk P w K mg base CX0 1 f__law_mixed fd__law_mixed ["_law_cell", "_law_k"] (spD K F__law_mixed) := by
  refine fnD D__law_mixed.fn sc__law_mixed fun cdv A outer s H E hr => ?_
  exact (psd_cons (psd_if (pt_ge (pd_var 0) (pd_pow pd_int pd_int))
      (psd_one (psd_ret (pd_mod (pd_div (pd_sub (pd_var 0) (pd_pow pd_int pd_int)) (pd_shl pd_int (pd_mul pd_int (pd_mod (pd_var 1) pd_int)))) (pd_shl pd_int pd_int))))
      psd_nil)
      (psd_cons (psd_set (i := 2) sc__law_mixed.nd rfl (by first | exact Or.inl rfl | exact Or.inr rfl) (pd_mod (pd_mul (pd_add (pd_add (pd_add (pd_mul (pd_var 0) (pd_var 0)) (pd_mul pd_int (pd_var 0))) (pd_mul pd_int (pd_var 1))) pd_int) pd_int) pd_int))
      (psd_one (psd_ret (pd_mod (pd_add (pd_mul (pd_var 2) (pd_var 2)) pd_int) pd_int)))))
theorem sc__law_word : FnScope ["_law_mixed_here", "_law_width"] ["_law_mixed_here", "_law_width"] (defScope s__law_word) := ⟨rfl, rfl, rfl, by decide +kernel, rfl, by decide +kernel, by decide +kernel⟩
theorem ok__law_word {f__law_word : Addr} {fd__law_word : FuncData} (D__law_word : Def1 K mg "_law_word" s__law_word f__law_word fd__law_word ["_law_mixed_here", "_law_width"]) :
    FnOk P w K mg base CX0 1 f__law_word fd__law_word ["_law_mixed_here", "_law_width"] (spD K F__law_word) := by
  refine fnD D__law_word.fn sc__law_word fun cdv A outer s H E hr => ?_
  exact (psd_one (psd_ret (pd_mod (pd_div (pd_mul (pd_var 0) (pd_add (pd_pow pd_int pd_int) pd_int)) pd_int) (pd_shl pd_int (pd_var 1)))))
theorem sc__law_deed : FnScope ["_law_mixed_here", "_law_width", "_law_many", "_law_one", "_law_way", "_law_word_here"] ["_law_mixed_here", "_law_width", "_law_many"] (defScope s__law_deed) := ⟨rfl, rfl, rfl, by decide +kernel, rfl, by decide +kernel, by decide +kernel⟩
theorem ok__law_deed {f__law_deed : Addr} {fd__law_deed : FuncData} (D__law_deed : Def1 K mg "_law_deed" s__law_deed f__law_deed fd__law_deed ["_law_mixed_here", "_law_width", "_law_many"]) {f__law_word : Addr} {fd__law_word : FuncData} (D__law_word : Def1 K mg "_law_word" s__law_word f__law_word fd__law_word ["_law_mixed_here", "_law_width"]) (G__law_word : FnOk P w K mg base CX0 1 f__law_word fd__law_word ["_law_mixed_here", "_law_width"] (spD K F__law_word)) (z_min : mg "min" = none) :
    FnOk P w K mg base CX0 2 f__law_deed fd__law_deed ["_law_mixed_here", "_law_width", "_law_many"] (spD K F__law_deed) := by
  refine fnD D__law_deed.fn sc__law_deed fun cdv A outer s H E hr => ?_
  exact (psd_cons (psd_set (i := 3) sc__law_deed.nd rfl (by first | exact Or.inl rfl | exact Or.inr rfl) (pd_mod (pd_div (pd_var 0) pd_int) (pd_var 2)))
      (psd_cons (psd_if (pt_gt (pd_mod (pd_div (pd_var 0) pd_int) pd_int) pd_int)
      (psd_one (psd_set (i := 3) sc__law_deed.nd rfl (by first | exact Or.inl rfl | exact Or.inr rfl) (pd_sub (pd_sub (pd_var 2) pd_int) (pd_mod (pd_div (pd_var 0) pd_int) (pd_bi (call_min2 rfl) cs_min (by rfl) z_min bo_min (pad_cons (pd_var 2) (pad_cons pd_int pad_nil)))))))
      psd_nil)
      (psd_cons (psd_set (i := 4) sc__law_deed.nd rfl (by first | exact Or.inl rfl | exact Or.inr rfl) (pd_mod (pd_var 0) pd_int))
      (psd_cons (psd_set (i := 5) sc__law_deed.nd rfl (by first | exact Or.inl rfl | exact Or.inr rfl) (PD.fz (pd_call G__law_word (hr.mono (by decide)) (by rfl) D__law_word.mg D__law_word.fn.kp D__law_word.bi (pad_cons (pd_var 0) (pad_cons (pd_var 1) pad_nil)))))
      (psd_cons (psd_if (pt_eq hr.units (pd_var 4) pd_int)
      (psd_one (psd_ret (pd_tup (pad_cons pd_str (pad_cons (pd_var 5) pad_nil)))))
      psd_nil)
      (psd_cons (psd_if (pt_lt (pd_var 4) pd_int)
      (psd_one (psd_ret (pd_tup (pad_cons pd_str (pad_cons (pd_var 3) (pad_cons (pd_ix (pd_lst (pad_cons (pd_var 5) (pad_cons (pd_var 5) (pad_cons (pd_sub (pd_shl pd_int (pd_var 1)) pd_int) (pad_cons pd_int pad_nil))))) (pd_mod (pd_div (pd_var 0) pd_int) pd_int)) pad_nil))))))
      psd_nil)
      (psd_cons (psd_if (pt_lt (pd_var 4) pd_int)
      (psd_one (psd_ret (pd_tup (pad_cons pd_str (pad_cons (pd_var 3) (pad_cons (pd_var 5) pad_nil))))))
      psd_nil)
      (psd_cons (psd_if (pt_lt (pd_var 4) pd_int)
      (psd_one (psd_ret (pd_tup (pad_cons pd_str (pad_cons (pd_var 3) (pad_cons (pd_mod (pd_div (pd_var 0) pd_int) (pd_var 2)) pad_nil))))))
      psd_nil)
      (psd_one (psd_ret (pd_tup (pad_cons (pd_ix (pd_lst (pad_cons pd_str (pad_cons pd_str pad_nil))) (pd_mod (pd_div (pd_var 0) pd_int) pd_int)) (pad_cons (pd_var 3) (pad_cons (pd_mod (pd_div (pd_var 0) pd_int) (pd_add (pd_var 1) pd_int)) pad_nil))))))))))))))
theorem sc__law_rows : FnScope ["_law_cells", "_law_width", "_law_most", "_law_rows_here", "_law_k", "_law_cell"] ["_law_cells", "_law_width", "_law_most"] (defScope s__law_rows) := ⟨rfl, rfl, rfl, by decide +kernel, rfl, by decide +kernel, by decide +kernel⟩
theorem ok__law_rows {f__law_rows : Addr} {fd__law_rows : FuncData} (D__law_rows : Def1 K mg "_law_rows" s__law_rows f__law_rows fd__law_rows ["_law_cells", "_law_width", "_law_most"]) {f__law_deed : Addr} {fd__law_deed : FuncData} (D__law_deed : Def1 K mg "_law_deed" s__law_deed f__law_deed fd__law_deed ["_law_mixed_here", "_law_width", "_law_many"]) (G__law_deed : FnOk P w K mg base CX0 2 f__law_deed fd__law_deed ["_law_mixed_here", "_law_width", "_law_many"] (spD K F__law_deed)) {f__law_mixed : Addr} {fd__law_mixed : FuncData} (D__law_mixed : Def1 K mg "_law_mixed" s__law_mixed f__law_mixed fd__law_mixed ["_law_cell", "_law_k"]) (G__law_mixed : FnOk P w K mg base CX0 1 f__law_mixed fd__law_mixed ["_law_cell", "_law_k"] (spD K F__law_mixed)) (z_enumerate : mg "enumerate" = none) (z_len : mg "len" = none) :
    FnOk P w K mg base CX0 3 f__law_rows fd__law_rows ["_law_cells", "_law_width", "_law_most"] (spD K F__law_rows) := by
  refine fnD D__law_rows.fn sc__law_rows fun cdv A outer s H E hr => ?_
  exact (psd_cons (psd_set (i := 3) sc__law_rows.nd rfl (by first | exact Or.inl rfl | exact Or.inr rfl) (pd_lst pad_nil))
      (psd_cons (psd_for PassesOwn.never rfl (pi_e (pd_sl (pd_var 0) po_no (po_at (pd_var 2))) (by rfl) z_enumerate bo_enumerate) (pg_t rfl (pgs_c 4 (pgs_c 5 pgs_n sc__law_rows.nd) sc__law_rows.nd))
      (psd_one (psd_app 3 (pv 3) (pd_call G__law_deed (hr.mono (by decide)) (by rfl) D__law_deed.mg D__law_deed.fn.kp D__law_deed.bi (pad_cons (pd_call G__law_mixed (hr.mono (by decide)) (by rfl) D__law_mixed.mg D__law_mixed.fn.kp D__law_mixed.bi (pad_cons (pd_var 5) (pad_cons (pd_var 4) pad_nil))) (pad_cons (pd_var 1) (pad_cons (pd_add (pd_bi call_len cs_len (by rfl) z_len bo_len (pad_cons (pd_var 3) pad_nil)) pd_int) pad_nil)))))))
      (psd_one (psd_ret (pd_var 3)))))
theorem sc_law : FnScope ["_law_script", "_law_cells", "_law_first", "_law_width", "_law_rows_here", "_law_lines", "_law_k", "_law_cell", "_law_mixed_here", "_law_at", "_law_bad_here"] ["_law_script"] (defScope s_law) := ⟨rfl, rfl, rfl, by decide +kernel, rfl, by decide +kernel, by decide +kernel⟩
theorem ok_law {f_law : Addr} {fd_law : FuncData} (D_law : Def1 K mg "law" s_law f_law fd_law ["_law_script"]) {f__law_asked : Addr} {fd__law_asked : FuncData} (D__law_asked : Def1 K mg "_law_asked" s__law_asked f__law_asked fd__law_asked ["_law_width", "_law_lines"]) (G__law_asked : FnOk P w K mg base CX0 5 f__law_asked fd__law_asked ["_law_width", "_law_lines"] (spD K F__law_asked)) {f__law_bad : Addr} {fd__law_bad : FuncData} (D__law_bad : Def1 K mg "_law_bad" s__law_bad f__law_bad fd__law_bad ["_law_mixed_here", "_law_width", "_law_many"]) (G__law_bad : FnOk P w K mg base CX0 1 f__law_bad fd__law_bad ["_law_mixed_here", "_law_width", "_law_many"] (spD K F__law_bad)) {f__law_mixed : Addr} {fd__law_mixed : FuncData} (D__law_mixed : Def1 K mg "_law_mixed" s__law_mixed f__law_mixed fd__law_mixed ["_law_cell", "_law_k"]) (G__law_mixed : FnOk P w K mg base CX0 1 f__law_mixed fd__law_mixed ["_law_cell", "_law_k"] (spD K F__law_mixed)) {f__law_rows : Addr} {fd__law_rows : FuncData} (D__law_rows : Def1 K mg "_law_rows" s__law_rows f__law_rows fd__law_rows ["_law_cells", "_law_width", "_law_most"]) (G__law_rows : FnOk P w K mg base CX0 3 f__law_rows fd__law_rows ["_law_cells", "_law_width", "_law_most"] (spD K F__law_rows)) (z_enumerate : mg "enumerate" = none) (z_len : mg "len" = none) (z_str : mg "str" = none) :
    FnOk P w K mg base CX0 6 f_law fd_law ["_law_script"] (spD K F_law) := by
  refine fnD D_law.fn sc_law fun cdv A outer s H E hr => ?_
  exact (psd_cons (psd_set (i := 1) sc_law.nd rfl (by first | exact Or.inl rfl | exact Or.inr rfl) (PD.fz (pd_sl (pd_var 0) (po_at pd_int) (po_at pd_int))))
      (psd_cons (psd_set (i := 2) sc_law.nd rfl (by first | exact Or.inl rfl | exact Or.inr rfl) pd_int)
      (psd_cons (psd_if (pt_gt (pd_bi call_len cs_len (by rfl) z_len bo_len (pad_cons (pd_var 0) pad_nil)) pd_int)
      (psd_one (psd_set (i := 2) sc_law.nd rfl (by first | exact Or.inl rfl | exact Or.inr rfl) (PD.fz (pd_ix (pd_var 0) pd_int))))
      psd_nil)
      (psd_cons (psd_set (i := 3) sc_law.nd rfl (by first | exact Or.inl rfl | exact Or.inr rfl) (PD.fz (pd_ix (pd_lst (pad_cons pd_int (pad_cons pd_int (pad_cons pd_int (pad_cons pd_int (pad_cons pd_int (pad_cons pd_int (pad_cons pd_int (pad_cons pd_int (pad_cons pd_int pad_nil)))))))))) (pd_mod (pd_var 2) pd_int))))
      (psd_cons (psd_set (i := 4) sc_law.nd rfl (by first | exact Or.inl rfl | exact Or.inr rfl) (PD.fz (pd_call G__law_rows (hr.mono (by decide)) (by rfl) D__law_rows.mg D__law_rows.fn.kp D__law_rows.bi (pad_cons (pd_var 1) (pad_cons (pd_var 3) (pad_cons pd_int pad_nil))))))
      (psd_cons (psd_setCompF rfl (compOk_mk (N := ["_law_script", "_law_cells", "_law_first", "_law_width", "_law_rows_here", "_law_lines", "_law_k", "_law_cell", "_law_mixed_here", "_law_at", "_law_bad_here"]) (sc := defScope s_law) (N' := ["_law_row", "_law_script", "_law_cells", "_law_first", "_law_width", "_law_rows_here", "_law_lines", "_law_k", "_law_cell", "_law_mixed_here", "_law_at", "_law_bad_here"]) (ix := [none, some 0, some 1, some 2, some 3, some 4, some 5, some 6, some 7, some 8, some 9, some 10]) (by decide +kernel)) (inj_of (by decide +kernel)) (own_of (t := (.nm 0)) (by decide +kernel)) (pi_l (pd_var 4)) (fun _ _ _ _ => (pg_n 0 (nd_of (N := ["_law_row", "_law_script", "_law_cells", "_law_first", "_law_width", "_law_rows_here", "_law_lines", "_law_k", "_law_cell", "_law_mixed_here", "_law_at", "_law_bad_here"]) (by decide +kernel)))) (fun _ _ _ _ => (pd_m PySem.F.slot_str_join PySem.F.type_str_join mt_join ms_join oJoin_str pd_str (pad_cons (pd_comp rfl (compOk_nest (scope1 := (cscope ((defBody s_law).getD 5 (.Pass ⟨0, 0, 0, 0⟩)))) (by decide +kernel) (compOk_mk (N := ["_law_row", "_law_script", "_law_cells", "_law_first", "_law_width", "_law_rows_here", "_law_lines", "_law_k", "_law_cell", "_law_mixed_here", "_law_at", "_law_bad_here"]) (sc := (cscope ((defBody s_law).getD 5 (.Pass ⟨0, 0, 0, 0⟩)))) (N' := ["_law_part", "_law_row", "_law_script", "_law_cells", "_law_first", "_law_width", "_law_rows_here", "_law_lines", "_law_k", "_law_cell", "_law_mixed_here", "_law_at", "_law_bad_here"]) (ix := [none, some 0, some 1, some 2, some 3, some 4, some 5, some 6, some 7, some 8, some 9, some 10, some 11]) (by decide +kernel))) (inj_of (by decide +kernel)) (own_of (t := (.nm 0)) (by decide +kernel)) (pi_s (pd_var 0)) (fun _ _ _ _ => (pg_n 0 (nd_of (N := ["_law_part", "_law_row", "_law_script", "_law_cells", "_law_first", "_law_width", "_law_rows_here", "_law_lines", "_law_k", "_law_cell", "_law_mixed_here", "_law_at", "_law_bad_here"]) (by decide +kernel)))) (fun _ _ _ _ => (pd_ty call_strs cs_str (by rfl) z_str bo_str (pad_cons (pd_var 0) pad_nil)))) pad_nil))) sc_law.nd rfl (by first | exact Or.inl rfl | exact Or.inr rfl))
      (psd_cons (psd_for PassesOwn.never rfl (pi_e (pd_cat (pd_lst (pad_cons (pd_var 2) pad_nil)) (pd_sl (pd_var 1) po_no (po_at pd_int))) (by rfl) z_enumerate bo_enumerate) (pg_t rfl (pgs_c 6 (pgs_c 7 pgs_n sc_law.nd) sc_law.nd))
      (psd_cons (psd_set (i := 8) sc_law.nd rfl (by first | exact Or.inl rfl | exact Or.inr rfl) (PD.fz (pd_call G__law_mixed (hr.mono (by decide)) (by rfl) D__law_mixed.mg D__law_mixed.fn.kp D__law_mixed.bi (pad_cons (pd_var 7) (pad_cons (pd_add pd_int (pd_var 6)) pad_nil)))))
      (psd_cons (psd_set (i := 9) sc_law.nd rfl (by first | exact Or.inl rfl | exact Or.inr rfl) (pd_mod (pd_div (pd_var 8) pd_int) (pd_add (pd_bi call_len cs_len (by rfl) z_len bo_len (pad_cons (pd_var 5) pad_nil)) pd_int)))
      (psd_cons (psd_set (i := 10) sc_law.nd rfl (by first | exact Or.inl rfl | exact Or.inr rfl) (PD.fz (pd_call G__law_bad (hr.mono (by decide)) (by rfl) D__law_bad.mg D__law_bad.fn.kp D__law_bad.bi (pad_cons (pd_div (pd_var 8) pd_int) (pad_cons (pd_var 3) (pad_cons (pd_var 9) pad_nil))))))
      (psd_one (psd_if (ptd_not (pt_of (pd_call G__law_asked (hr.mono (by decide)) (by rfl) D__law_asked.mg D__law_asked.fn.kp D__law_asked.bi (pad_cons (pd_var 3) (pad_cons (pd_cat (pd_cat (pd_sl (pd_var 5) po_no (po_at (pd_var 9))) (pd_lst (pad_cons (pd_var 10) pad_nil))) (pd_sl (pd_var 5) (po_at (pd_add (pd_var 9) (pd_mod (pd_var 8) pd_int))) po_no)) pad_nil)))))
      (psd_one (psd_ret pd_bl))
      psd_nil))))))
      (psd_one (psd_ret (pd_and (pd_call G__law_asked (hr.mono (by decide)) (by rfl) D__law_asked.mg D__law_asked.fn.kp D__law_asked.bi (pad_cons (pd_var 3) (pad_cons (pd_var 5) pad_nil))) (pd_one (pd_call G__law_asked (hr.mono (by decide)) (by rfl) D__law_asked.mg D__law_asked.fn.kp D__law_asked.bi (pad_cons (pd_var 3) (pad_cons (pd_lst pad_nil) pad_nil))))))))))))))
theorem ok_all {f__law_number : Addr} {fd__law_number : FuncData} (D__law_number : Def1 K mg "_law_number" s__law_number f__law_number fd__law_number ["_law_word_here"]) {f__law_fine : Addr} {fd__law_fine : FuncData} (D__law_fine : Def1 K mg "_law_fine" s__law_fine f__law_fine fd__law_fine ["_law_width", "_law_lines"]) {f_bounds_of : Addr} {fd_bounds_of : FuncData} (D_bounds_of : Def1 K mg "bounds_of" s_bounds_of f_bounds_of fd_bounds_of ["width", "name", "ahead"]) {f_is_number : Addr} {fd_is_number : FuncData} (D_is_number : Def1 K mg "is_number" s_is_number f_is_number fd_is_number ["part"]) {f_number_of : Addr} {fd_number_of : FuncData} (D_number_of : Def1 K mg "number_of" s_number_of f_number_of fd_number_of ["part", "most"]) {f_deed_of : Addr} {fd_deed_of : FuncData} (D_deed_of : Def1 K mg "deed_of" s_deed_of f_deed_of fd_deed_of ["width", "line", "ahead"]) {f_read : Addr} {fd_read : FuncData} (D_read : Def1 K mg "read" s_read f_read fd_read ["width", "lines"]) {f__law_asked : Addr} {fd__law_asked : FuncData} (D__law_asked : Def1 K mg "_law_asked" s__law_asked f__law_asked fd__law_asked ["_law_width", "_law_lines"]) {f__law_bad : Addr} {fd__law_bad : FuncData} (D__law_bad : Def1 K mg "_law_bad" s__law_bad f__law_bad fd__law_bad ["_law_mixed_here", "_law_width", "_law_many"]) {f__law_mixed : Addr} {fd__law_mixed : FuncData} (D__law_mixed : Def1 K mg "_law_mixed" s__law_mixed f__law_mixed fd__law_mixed ["_law_cell", "_law_k"]) {f__law_word : Addr} {fd__law_word : FuncData} (D__law_word : Def1 K mg "_law_word" s__law_word f__law_word fd__law_word ["_law_mixed_here", "_law_width"]) {f__law_deed : Addr} {fd__law_deed : FuncData} (D__law_deed : Def1 K mg "_law_deed" s__law_deed f__law_deed fd__law_deed ["_law_mixed_here", "_law_width", "_law_many"]) {f__law_rows : Addr} {fd__law_rows : FuncData} (D__law_rows : Def1 K mg "_law_rows" s__law_rows f__law_rows fd__law_rows ["_law_cells", "_law_width", "_law_most"]) {f_law : Addr} {fd_law : FuncData} (D_law : Def1 K mg "law" s_law f_law fd_law ["_law_script"]) (z_ValueError : mg "ValueError" = none) (z_all : mg "all" = none) (z_enumerate : mg "enumerate" = none) (z_int : mg "int" = none) (z_isinstance : mg "isinstance" = none) (z_len : mg "len" = none) (z_list : mg "list" = none) (z_min : mg "min" = none) (z_str : mg "str" = none) (z_tuple : mg "tuple" = none) (z_zip : mg "zip" = none) {u_FIGURES : Tok} (g_FIGURES : mg "FIGURES" = some (.str "0123456789" u_FIGURES)) {C_FerryError : Addr} {C_NoDeed : Addr} {C_NoLine : Addr} {C_NoOrder : Addr} {C_NoWay : Addr} (i_NoDeed_FerryError : PySem.W.kitOne K (.ref C_NoDeed) (.ref C_FerryError) = some true) (i_NoDeed_ValueError : PySem.W.kitOne K (.ref C_NoDeed) (.type "ValueError") = some true) (i_none_FerryError : PySem.W.kitOne K (.type "NoneType") (.ref C_FerryError) = some false) (i_none_ValueError : PySem.W.kitOne K (.type "NoneType") (.type "ValueError") = some false) (m_FerryError : mg "FerryError" = some (.ref C_FerryError)) (m_NoDeed : mg "NoDeed" = some (.ref C_NoDeed)) (m_NoLine : mg "NoLine" = some (.ref C_NoLine)) (m_NoOrder : mg "NoOrder" = some (.ref C_NoOrder)) (m_NoWay : mg "NoWay" = some (.ref C_NoWay)) (n_NoDeed : clsK K "NoDeed" = some C_NoDeed) (q_NoDeed : XcC K C_NoDeed) (s_NoDeed_NoDeed : subIn K C_NoDeed C_NoDeed) (t_NoDeed_NoLine_NoOrder_NoWay : PySem.W.kitAny K (.ref C_NoDeed) [Value.ref C_NoLine, Value.ref C_NoOrder, Value.ref C_NoWay] = some false) (t_none_NoLine_NoOrder_NoWay : PySem.W.kitAny K (.type "NoneType") [Value.ref C_NoLine, Value.ref C_NoOrder, Value.ref C_NoWay] = some false) (x_NoDeed : PySem.W.excIn K C_NoDeed bmVE "ValueError.__new__" = true) :
    FnOk P w K mg base CX0 6 f_law fd_law ["_law_script"] (spD K F_law) := by
  have G__law_number := ok__law_number (P := P) (w := w) (base := base) D__law_number
  have G__law_fine := ok__law_fine (P := P) (w := w) (base := base) D__law_fine D__law_number G__law_number z_enumerate z_len z_min
  have G_bounds_of := ok_bounds_of (P := P) (w := w) (base := base) D_bounds_of m_NoDeed x_NoDeed
  have G_is_number := ok_is_number (P := P) (w := w) (base := base) D_is_number z_all g_FIGURES
  have G_number_of := ok_number_of (P := P) (w := w) (base := base) D_number_of D_is_number G_is_number z_int z_len z_str m_NoDeed x_NoDeed
  have G_deed_of := ok_deed_of (P := P) (w := w) (base := base) D_deed_of D_bounds_of G_bounds_of D_number_of G_number_of z_len z_tuple z_zip m_NoDeed x_NoDeed
  have G_read := ok_read (P := P) (w := w) (base := base) D_read D_deed_of G_deed_of z_len
  have G__law_asked := ok__law_asked (P := P) (w := w) (base := base) D__law_asked D__law_fine G__law_fine D_read G_read z_ValueError z_isinstance z_len z_list i_NoDeed_FerryError i_NoDeed_ValueError i_none_FerryError i_none_ValueError m_FerryError m_NoDeed m_NoLine m_NoOrder m_NoWay n_NoDeed q_NoDeed s_NoDeed_NoDeed t_NoDeed_NoLine_NoOrder_NoWay t_none_NoLine_NoOrder_NoWay x_NoDeed
  have G__law_bad := ok__law_bad (P := P) (w := w) (base := base) D__law_bad z_len z_str
  have G__law_mixed := ok__law_mixed (P := P) (w := w) (base := base) D__law_mixed
  have G__law_word := ok__law_word (P := P) (w := w) (base := base) D__law_word
  have G__law_deed := ok__law_deed (P := P) (w := w) (base := base) D__law_deed D__law_word G__law_word z_min
  have G__law_rows := ok__law_rows (P := P) (w := w) (base := base) D__law_rows D__law_deed G__law_deed D__law_mixed G__law_mixed z_enumerate z_len
  exact ok_law D_law D__law_asked G__law_asked D__law_bad G__law_bad D__law_mixed G__law_mixed D__law_rows G__law_rows z_enumerate z_len z_str
end
theorem all_mk {l : PySem.W.OpenLaw} {w : World} {K : PySem.W.Frag} {h : Heap} {mg : Str → Option Value} {fa : Addr} (X : K.In h) (G : h.Ns mainGlobals mg) (hfa : mg "law" = some (.ref fa))
    {f__law_number : Addr} {oc__law_number kV__law_number dc__law_number pm__law_number cd__law_number ct__law_number : Value} {od__law_number an__law_number : Option Addr} {sl__law_number : Array (Option Value)} (a__law_number : PySem.W.nsIn K mainGlobals "_law_number" = some (some (.ref f__law_number))) (l__law_number : K.lookup f__law_number = some ⟨oc__law_number, od__law_number, .func (PySem.W.fnOf "_law_number" "_law_number" (defArgs s__law_number) (defBody s__law_number) (defScope s__law_number) .none kV__law_number dc__law_number pm__law_number an__law_number cd__law_number ct__law_number), sl__law_number⟩) (c__law_number : PySem.W.codeIn K cd__law_number "_law_number" = true) (k__law_number : PySem.W.keepIn K (.ref f__law_number) = true)
    {f__law_fine : Addr} {oc__law_fine kV__law_fine dc__law_fine pm__law_fine cd__law_fine ct__law_fine : Value} {od__law_fine an__law_fine : Option Addr} {sl__law_fine : Array (Option Value)} (a__law_fine : PySem.W.nsIn K mainGlobals "_law_fine" = some (some (.ref f__law_fine))) (l__law_fine : K.lookup f__law_fine = some ⟨oc__law_fine, od__law_fine, .func (PySem.W.fnOf "_law_fine" "_law_fine" (defArgs s__law_fine) (defBody s__law_fine) (defScope s__law_fine) .none kV__law_fine dc__law_fine pm__law_fine an__law_fine cd__law_fine ct__law_fine), sl__law_fine⟩) (c__law_fine : PySem.W.codeIn K cd__law_fine "_law_fine" = true) (k__law_fine : PySem.W.keepIn K (.ref f__law_fine) = true)
    {f_bounds_of : Addr} {oc_bounds_of kV_bounds_of dc_bounds_of pm_bounds_of cd_bounds_of ct_bounds_of : Value} {od_bounds_of an_bounds_of : Option Addr} {sl_bounds_of : Array (Option Value)} (a_bounds_of : PySem.W.nsIn K mainGlobals "bounds_of" = some (some (.ref f_bounds_of))) (l_bounds_of : K.lookup f_bounds_of = some ⟨oc_bounds_of, od_bounds_of, .func (PySem.W.fnOf "bounds_of" "bounds_of" (defArgs s_bounds_of) (defBody s_bounds_of) (defScope s_bounds_of) .none kV_bounds_of dc_bounds_of pm_bounds_of an_bounds_of cd_bounds_of ct_bounds_of), sl_bounds_of⟩) (c_bounds_of : PySem.W.codeIn K cd_bounds_of "bounds_of" = true) (k_bounds_of : PySem.W.keepIn K (.ref f_bounds_of) = true)
    {f_is_number : Addr} {oc_is_number kV_is_number dc_is_number pm_is_number cd_is_number ct_is_number : Value} {od_is_number an_is_number : Option Addr} {sl_is_number : Array (Option Value)} (a_is_number : PySem.W.nsIn K mainGlobals "is_number" = some (some (.ref f_is_number))) (l_is_number : K.lookup f_is_number = some ⟨oc_is_number, od_is_number, .func (PySem.W.fnOf "is_number" "is_number" (defArgs s_is_number) (defBody s_is_number) (defScope s_is_number) .none kV_is_number dc_is_number pm_is_number an_is_number cd_is_number ct_is_number), sl_is_number⟩) (c_is_number : PySem.W.codeIn K cd_is_number "is_number" = true) (k_is_number : PySem.W.keepIn K (.ref f_is_number) = true)
    {f_number_of : Addr} {oc_number_of kV_number_of dc_number_of pm_number_of cd_number_of ct_number_of : Value} {od_number_of an_number_of : Option Addr} {sl_number_of : Array (Option Value)} (a_number_of : PySem.W.nsIn K mainGlobals "number_of" = some (some (.ref f_number_of))) (l_number_of : K.lookup f_number_of = some ⟨oc_number_of, od_number_of, .func (PySem.W.fnOf "number_of" "number_of" (defArgs s_number_of) (defBody s_number_of) (defScope s_number_of) .none kV_number_of dc_number_of pm_number_of an_number_of cd_number_of ct_number_of), sl_number_of⟩) (c_number_of : PySem.W.codeIn K cd_number_of "number_of" = true) (k_number_of : PySem.W.keepIn K (.ref f_number_of) = true)
    {f_deed_of : Addr} {oc_deed_of kV_deed_of dc_deed_of pm_deed_of cd_deed_of ct_deed_of : Value} {od_deed_of an_deed_of : Option Addr} {sl_deed_of : Array (Option Value)} (a_deed_of : PySem.W.nsIn K mainGlobals "deed_of" = some (some (.ref f_deed_of))) (l_deed_of : K.lookup f_deed_of = some ⟨oc_deed_of, od_deed_of, .func (PySem.W.fnOf "deed_of" "deed_of" (defArgs s_deed_of) (defBody s_deed_of) (defScope s_deed_of) .none kV_deed_of dc_deed_of pm_deed_of an_deed_of cd_deed_of ct_deed_of), sl_deed_of⟩) (c_deed_of : PySem.W.codeIn K cd_deed_of "deed_of" = true) (k_deed_of : PySem.W.keepIn K (.ref f_deed_of) = true)
    {f_read : Addr} {oc_read kV_read dc_read pm_read cd_read ct_read : Value} {od_read an_read : Option Addr} {sl_read : Array (Option Value)} (a_read : PySem.W.nsIn K mainGlobals "read" = some (some (.ref f_read))) (l_read : K.lookup f_read = some ⟨oc_read, od_read, .func (PySem.W.fnOf "read" "read" (defArgs s_read) (defBody s_read) (defScope s_read) .none kV_read dc_read pm_read an_read cd_read ct_read), sl_read⟩) (c_read : PySem.W.codeIn K cd_read "read" = true) (k_read : PySem.W.keepIn K (.ref f_read) = true)
    {f__law_asked : Addr} {oc__law_asked kV__law_asked dc__law_asked pm__law_asked cd__law_asked ct__law_asked : Value} {od__law_asked an__law_asked : Option Addr} {sl__law_asked : Array (Option Value)} (a__law_asked : PySem.W.nsIn K mainGlobals "_law_asked" = some (some (.ref f__law_asked))) (l__law_asked : K.lookup f__law_asked = some ⟨oc__law_asked, od__law_asked, .func (PySem.W.fnOf "_law_asked" "_law_asked" (defArgs s__law_asked) (defBody s__law_asked) (defScope s__law_asked) .none kV__law_asked dc__law_asked pm__law_asked an__law_asked cd__law_asked ct__law_asked), sl__law_asked⟩) (c__law_asked : PySem.W.codeIn K cd__law_asked "_law_asked" = true) (k__law_asked : PySem.W.keepIn K (.ref f__law_asked) = true)
    {f__law_bad : Addr} {oc__law_bad kV__law_bad dc__law_bad pm__law_bad cd__law_bad ct__law_bad : Value} {od__law_bad an__law_bad : Option Addr} {sl__law_bad : Array (Option Value)} (a__law_bad : PySem.W.nsIn K mainGlobals "_law_bad" = some (some (.ref f__law_bad))) (l__law_bad : K.lookup f__law_bad = some ⟨oc__law_bad, od__law_bad, .func (PySem.W.fnOf "_law_bad" "_law_bad" (defArgs s__law_bad) (defBody s__law_bad) (defScope s__law_bad) .none kV__law_bad dc__law_bad pm__law_bad an__law_bad cd__law_bad ct__law_bad), sl__law_bad⟩) (c__law_bad : PySem.W.codeIn K cd__law_bad "_law_bad" = true) (k__law_bad : PySem.W.keepIn K (.ref f__law_bad) = true)
    {f__law_mixed : Addr} {oc__law_mixed kV__law_mixed dc__law_mixed pm__law_mixed cd__law_mixed ct__law_mixed : Value} {od__law_mixed an__law_mixed : Option Addr} {sl__law_mixed : Array (Option Value)} (a__law_mixed : PySem.W.nsIn K mainGlobals "_law_mixed" = some (some (.ref f__law_mixed))) (l__law_mixed : K.lookup f__law_mixed = some ⟨oc__law_mixed, od__law_mixed, .func (PySem.W.fnOf "_law_mixed" "_law_mixed" (defArgs s__law_mixed) (defBody s__law_mixed) (defScope s__law_mixed) .none kV__law_mixed dc__law_mixed pm__law_mixed an__law_mixed cd__law_mixed ct__law_mixed), sl__law_mixed⟩) (c__law_mixed : PySem.W.codeIn K cd__law_mixed "_law_mixed" = true) (k__law_mixed : PySem.W.keepIn K (.ref f__law_mixed) = true)
    {f__law_word : Addr} {oc__law_word kV__law_word dc__law_word pm__law_word cd__law_word ct__law_word : Value} {od__law_word an__law_word : Option Addr} {sl__law_word : Array (Option Value)} (a__law_word : PySem.W.nsIn K mainGlobals "_law_word" = some (some (.ref f__law_word))) (l__law_word : K.lookup f__law_word = some ⟨oc__law_word, od__law_word, .func (PySem.W.fnOf "_law_word" "_law_word" (defArgs s__law_word) (defBody s__law_word) (defScope s__law_word) .none kV__law_word dc__law_word pm__law_word an__law_word cd__law_word ct__law_word), sl__law_word⟩) (c__law_word : PySem.W.codeIn K cd__law_word "_law_word" = true) (k__law_word : PySem.W.keepIn K (.ref f__law_word) = true)
    {f__law_deed : Addr} {oc__law_deed kV__law_deed dc__law_deed pm__law_deed cd__law_deed ct__law_deed : Value} {od__law_deed an__law_deed : Option Addr} {sl__law_deed : Array (Option Value)} (a__law_deed : PySem.W.nsIn K mainGlobals "_law_deed" = some (some (.ref f__law_deed))) (l__law_deed : K.lookup f__law_deed = some ⟨oc__law_deed, od__law_deed, .func (PySem.W.fnOf "_law_deed" "_law_deed" (defArgs s__law_deed) (defBody s__law_deed) (defScope s__law_deed) .none kV__law_deed dc__law_deed pm__law_deed an__law_deed cd__law_deed ct__law_deed), sl__law_deed⟩) (c__law_deed : PySem.W.codeIn K cd__law_deed "_law_deed" = true) (k__law_deed : PySem.W.keepIn K (.ref f__law_deed) = true)
    {f__law_rows : Addr} {oc__law_rows kV__law_rows dc__law_rows pm__law_rows cd__law_rows ct__law_rows : Value} {od__law_rows an__law_rows : Option Addr} {sl__law_rows : Array (Option Value)} (a__law_rows : PySem.W.nsIn K mainGlobals "_law_rows" = some (some (.ref f__law_rows))) (l__law_rows : K.lookup f__law_rows = some ⟨oc__law_rows, od__law_rows, .func (PySem.W.fnOf "_law_rows" "_law_rows" (defArgs s__law_rows) (defBody s__law_rows) (defScope s__law_rows) .none kV__law_rows dc__law_rows pm__law_rows an__law_rows cd__law_rows ct__law_rows), sl__law_rows⟩) (c__law_rows : PySem.W.codeIn K cd__law_rows "_law_rows" = true) (k__law_rows : PySem.W.keepIn K (.ref f__law_rows) = true)
    {f_law : Addr} {oc_law kV_law dc_law pm_law cd_law ct_law : Value} {od_law an_law : Option Addr} {sl_law : Array (Option Value)} (a_law : PySem.W.nsIn K mainGlobals "law" = some (some (.ref f_law))) (l_law : K.lookup f_law = some ⟨oc_law, od_law, .func (PySem.W.fnOf "law" "law" (defArgs s_law) (defBody s_law) (defScope s_law) .none kV_law dc_law pm_law an_law cd_law ct_law), sl_law⟩) (c_law : PySem.W.codeIn K cd_law "law" = true) (k_law : PySem.W.keepIn K (.ref f_law) = true)
    (z_ValueError : PySem.W.nsIn K mainGlobals "ValueError" = some none)
    (z_all : PySem.W.nsIn K mainGlobals "all" = some none)
    (z_enumerate : PySem.W.nsIn K mainGlobals "enumerate" = some none)
    (z_int : PySem.W.nsIn K mainGlobals "int" = some none)
    (z_isinstance : PySem.W.nsIn K mainGlobals "isinstance" = some none)
    (z_len : PySem.W.nsIn K mainGlobals "len" = some none)
    (z_list : PySem.W.nsIn K mainGlobals "list" = some none)
    (z_min : PySem.W.nsIn K mainGlobals "min" = some none)
    (z_str : PySem.W.nsIn K mainGlobals "str" = some none)
    (z_tuple : PySem.W.nsIn K mainGlobals "tuple" = some none)
    (z_zip : PySem.W.nsIn K mainGlobals "zip" = some none)
    {u_FIGURES : Tok} (g_FIGURES : PySem.W.nsIn K mainGlobals "FIGURES" = some (some (.str "0123456789" u_FIGURES)))
    {C_FerryError : Addr}
    {C_NoDeed : Addr}
    {C_NoLine : Addr}
    {C_NoOrder : Addr}
    {C_NoWay : Addr}
    (ac_FerryError : PySem.W.nsIn K mainGlobals "FerryError" = some (some (.ref C_FerryError)))
    (ac_NoDeed : PySem.W.nsIn K mainGlobals "NoDeed" = some (some (.ref C_NoDeed)))
    (ac_NoLine : PySem.W.nsIn K mainGlobals "NoLine" = some (some (.ref C_NoLine)))
    (ac_NoOrder : PySem.W.nsIn K mainGlobals "NoOrder" = some (some (.ref C_NoOrder)))
    (ac_NoWay : PySem.W.nsIn K mainGlobals "NoWay" = some (some (.ref C_NoWay)))
    (i_NoDeed_FerryError : PySem.W.kitOne K (.ref C_NoDeed) (.ref C_FerryError) = some true)
    (i_NoDeed_ValueError : PySem.W.kitOne K (.ref C_NoDeed) (.type "ValueError") = some true)
    (i_none_FerryError : PySem.W.kitOne K (.type "NoneType") (.ref C_FerryError) = some false)
    (i_none_ValueError : PySem.W.kitOne K (.type "NoneType") (.type "ValueError") = some false)
    (ga_NoDeed : PySem.W.findIn K (.ref C_NoDeed) "__getattribute__" = some (some (.builtin "BaseException.__getattribute__")))
    (gt_NoDeed : PySem.W.findIn K (.ref C_NoDeed) "__getattr__" = some none)
    (gc_NoDeed : PySem.W.findIn K (.ref C_NoDeed) "__class__" = some (some (.builtin "object.__class__")))
    (go_NoDeed : PySem.W.mroIn K C_NoDeed (.type "object") = some true)
    (gb_NoDeed : PySem.W.mroIn K C_NoDeed (.type "BaseException") = some true)
    (s_NoDeed_NoDeed : PySem.W.mroIn K C_NoDeed (.ref C_NoDeed) = some true)
    (t_NoDeed_NoLine_NoOrder_NoWay : PySem.W.kitAny K (.ref C_NoDeed) [Value.ref C_NoLine, Value.ref C_NoOrder, Value.ref C_NoWay] = some false)
    (t_none_NoLine_NoOrder_NoWay : PySem.W.kitAny K (.type "NoneType") [Value.ref C_NoLine, Value.ref C_NoOrder, Value.ref C_NoWay] = some false)
    (x_NoDeed : PySem.W.excIn K C_NoDeed bmVE "ValueError.__new__" = true) :
    ∃ fd : FuncData, (∀ (s : Shared) (v : Value), BindsTo s fd ⟨[v], []⟩ [("_law_script", v)]) ∧ ∀ base : Heap, K.In base → base.Ns mainGlobals mg → FnOk l.prog w K mg base CX0 6 fa fd ["_law_script"] (spD K F_law) := by
  have e := hfa.symm.trans (PySem.W.mg_of X G a_law)
  cases e
  have D__law_number := Def1.mk' (st := s__law_number) (ps := ["_law_word_here"]) X G a__law_number l__law_number c__law_number k__law_number fun _ _ _ _ _ _ us hl => match us, hl with | [_], _ => rfl
  have D__law_fine := Def1.mk' (st := s__law_fine) (ps := ["_law_width", "_law_lines"]) X G a__law_fine l__law_fine c__law_fine k__law_fine fun _ _ _ _ _ _ us hl => match us, hl with | [_, _], _ => rfl
  have D_bounds_of := Def1.mk' (st := s_bounds_of) (ps := ["width", "name", "ahead"]) X G a_bounds_of l_bounds_of c_bounds_of k_bounds_of fun _ _ _ _ _ _ us hl => match us, hl with | [_, _, _], _ => rfl
  have D_is_number := Def1.mk' (st := s_is_number) (ps := ["part"]) X G a_is_number l_is_number c_is_number k_is_number fun _ _ _ _ _ _ us hl => match us, hl with | [_], _ => rfl
  have D_number_of := Def1.mk' (st := s_number_of) (ps := ["part", "most"]) X G a_number_of l_number_of c_number_of k_number_of fun _ _ _ _ _ _ us hl => match us, hl with | [_, _], _ => rfl
  have D_deed_of := Def1.mk' (st := s_deed_of) (ps := ["width", "line", "ahead"]) X G a_deed_of l_deed_of c_deed_of k_deed_of fun _ _ _ _ _ _ us hl => match us, hl with | [_, _, _], _ => rfl
  have D_read := Def1.mk' (st := s_read) (ps := ["width", "lines"]) X G a_read l_read c_read k_read fun _ _ _ _ _ _ us hl => match us, hl with | [_, _], _ => rfl
  have D__law_asked := Def1.mk' (st := s__law_asked) (ps := ["_law_width", "_law_lines"]) X G a__law_asked l__law_asked c__law_asked k__law_asked fun _ _ _ _ _ _ us hl => match us, hl with | [_, _], _ => rfl
  have D__law_bad := Def1.mk' (st := s__law_bad) (ps := ["_law_mixed_here", "_law_width", "_law_many"]) X G a__law_bad l__law_bad c__law_bad k__law_bad fun _ _ _ _ _ _ us hl => match us, hl with | [_, _, _], _ => rfl
  have D__law_mixed := Def1.mk' (st := s__law_mixed) (ps := ["_law_cell", "_law_k"]) X G a__law_mixed l__law_mixed c__law_mixed k__law_mixed fun _ _ _ _ _ _ us hl => match us, hl with | [_, _], _ => rfl
  have D__law_word := Def1.mk' (st := s__law_word) (ps := ["_law_mixed_here", "_law_width"]) X G a__law_word l__law_word c__law_word k__law_word fun _ _ _ _ _ _ us hl => match us, hl with | [_, _], _ => rfl
  have D__law_deed := Def1.mk' (st := s__law_deed) (ps := ["_law_mixed_here", "_law_width", "_law_many"]) X G a__law_deed l__law_deed c__law_deed k__law_deed fun _ _ _ _ _ _ us hl => match us, hl with | [_, _, _], _ => rfl
  have D__law_rows := Def1.mk' (st := s__law_rows) (ps := ["_law_cells", "_law_width", "_law_most"]) X G a__law_rows l__law_rows c__law_rows k__law_rows fun _ _ _ _ _ _ us hl => match us, hl with | [_, _, _], _ => rfl
  have D_law := Def1.mk' (st := s_law) (ps := ["_law_script"]) X G a_law l_law c_law k_law fun _ _ _ _ _ _ us hl => match us, hl with | [_], _ => rfl
  exact ⟨_, fun s v => .of_eq rfl, fun base _ _ => ok_all D__law_number D__law_fine D_bounds_of D_is_number D_number_of D_deed_of D_read D__law_asked D__law_bad D__law_mixed D__law_word D__law_deed D__law_rows D_law (PySem.W.mg_none_of X G z_ValueError) (PySem.W.mg_none_of X G z_all) (PySem.W.mg_none_of X G z_enumerate) (PySem.W.mg_none_of X G z_int) (PySem.W.mg_none_of X G z_isinstance) (PySem.W.mg_none_of X G z_len) (PySem.W.mg_none_of X G z_list) (PySem.W.mg_none_of X G z_min) (PySem.W.mg_none_of X G z_str) (PySem.W.mg_none_of X G z_tuple) (PySem.W.mg_none_of X G z_zip) (PySem.W.mg_of X G g_FIGURES) i_NoDeed_FerryError i_NoDeed_ValueError i_none_FerryError i_none_ValueError (PySem.W.mg_of X G ac_FerryError) (PySem.W.mg_of X G ac_NoDeed) (PySem.W.mg_of X G ac_NoLine) (PySem.W.mg_of X G ac_NoOrder) (PySem.W.mg_of X G ac_NoWay) (clsK_of ac_NoDeed) ⟨ga_NoDeed, gt_NoDeed, gc_NoDeed, go_NoDeed, gb_NoDeed⟩ s_NoDeed_NoDeed t_NoDeed_NoLine_NoOrder_NoWay t_none_NoLine_NoOrder_NoWay x_NoDeed⟩
end LW
set_option Elab.async false
set_option linter.all false
set_option maxRecDepth 100000
set_option maxHeartbeats 8000000
open PySem PySem.W PyProof.Rows
set_option maxRecDepth 100000 in
set_option maxHeartbeats 0 in
theorem PySem.Challenge.cw_bitferry_k04_lines_that_write_no_deed_holds : PySem.Challenge.rw_bitferry_k04_lines_that_write_no_deed.Holds := by
  w_on; o_law; k_head; (case hw => w_witness2)
  k_fill
  refine BFA.walkD (l := PySem.Challenge.rw_bitferry_k04_lines_that_write_no_deed) (FL := LW.F_law) (x := "_law_script") (k := 6) rfl rfl ⟨rfl, by decide, by decide⟩ (fun w h Y => PySem.W.kIn_of Y) ?F LW.law_true
  case F =>
    intro w mg fa h KX G hmg
    refine' LW.all_mk KX G hmg ?a__law_number ?l__law_number ?c__law_number ?k__law_number ?a__law_fine ?l__law_fine ?c__law_fine ?k__law_fine ?a_bounds_of ?l_bounds_of ?c_bounds_of ?k_bounds_of ?a_is_number ?l_is_number ?c_is_number ?k_is_number ?a_number_of ?l_number_of ?c_number_of ?k_number_of ?a_deed_of ?l_deed_of ?c_deed_of ?k_deed_of ?a_read ?l_read ?c_read ?k_read ?a__law_asked ?l__law_asked ?c__law_asked ?k__law_asked ?a__law_bad ?l__law_bad ?c__law_bad ?k__law_bad ?a__law_mixed ?l__law_mixed ?c__law_mixed ?k__law_mixed ?a__law_word ?l__law_word ?c__law_word ?k__law_word ?a__law_deed ?l__law_deed ?c__law_deed ?k__law_deed ?a__law_rows ?l__law_rows ?c__law_rows ?k__law_rows ?a_law ?l_law ?c_law ?k_law ?z_ValueError ?z_all ?z_enumerate ?z_int ?z_isinstance ?z_len ?z_list ?z_min ?z_str ?z_tuple ?z_zip ?g_FIGURES ?ac_FerryError ?ac_NoDeed ?ac_NoLine ?ac_NoOrder ?ac_NoWay ?i_NoDeed_FerryError ?i_NoDeed_ValueError ?i_none_FerryError ?i_none_ValueError ?ga_NoDeed ?gt_NoDeed ?gc_NoDeed ?go_NoDeed ?gb_NoDeed ?s_NoDeed_NoDeed ?t_NoDeed_NoLine_NoOrder_NoWay ?t_none_NoLine_NoOrder_NoWay ?x_NoDeed
    (case a__law_number => k_is)
    (case l__law_number => k_is)
    (case c__law_number => k_is)
    (case k__law_number => k_is)
    (case a__law_fine => k_is)
    (case l__law_fine => k_is)
    (case c__law_fine => k_is)
    (case k__law_fine => k_is)
    (case a_bounds_of => k_is)
    (case l_bounds_of => k_is)
    (case c_bounds_of => k_is)
    (case k_bounds_of => k_is)
    (case a_is_number => k_is)
    (case l_is_number => k_is)
    (case c_is_number => k_is)
    (case k_is_number => k_is)
    (case a_number_of => k_is)
    (case l_number_of => k_is)
    (case c_number_of => k_is)
    (case k_number_of => k_is)
    (case a_deed_of => k_is)
    (case l_deed_of => k_is)
    (case c_deed_of => k_is)
    (case k_deed_of => k_is)
    (case a_read => k_is)
    (case l_read => k_is)
    (case c_read => k_is)
    (case k_read => k_is)
    (case a__law_asked => k_is)
    (case l__law_asked => k_is)
    (case c__law_asked => k_is)
    (case k__law_asked => k_is)
    (case a__law_bad => k_is)
    (case l__law_bad => k_is)
    (case c__law_bad => k_is)
    (case k__law_bad => k_is)
    (case a__law_mixed => k_is)
    (case l__law_mixed => k_is)
    (case c__law_mixed => k_is)
    (case k__law_mixed => k_is)
    (case a__law_word => k_is)
    (case l__law_word => k_is)
    (case c__law_word => k_is)
    (case k__law_word => k_is)
    (case a__law_deed => k_is)
    (case l__law_deed => k_is)
    (case c__law_deed => k_is)
    (case k__law_deed => k_is)
    (case a__law_rows => k_is)
    (case l__law_rows => k_is)
    (case c__law_rows => k_is)
    (case k__law_rows => k_is)
    (case a_law => k_is)
    (case l_law => k_is)
    (case c_law => k_is)
    (case k_law => k_is)
    (case z_ValueError => k_is)
    (case z_all => k_is)
    (case z_enumerate => k_is)
    (case z_int => k_is)
    (case z_isinstance => k_is)
    (case z_len => k_is)
    (case z_list => k_is)
    (case z_min => k_is)
    (case z_str => k_is)
    (case z_tuple => k_is)
    (case z_zip => k_is)
    (case g_FIGURES => k_is)
    (case ac_FerryError => k_is)
    (case ac_NoDeed => k_is)
    (case ac_NoLine => k_is)
    (case ac_NoOrder => k_is)
    (case ac_NoWay => k_is)
    (case i_NoDeed_FerryError => kit_is)
    (case i_NoDeed_ValueError => kit_is)
    (case i_none_FerryError => kit_is)
    (case i_none_ValueError => kit_is)
    (case ga_NoDeed => k_is)
    (case gt_NoDeed => k_is)
    (case gc_NoDeed => k_is)
    (case go_NoDeed => k_is)
    (case gb_NoDeed => k_is)
    (case s_NoDeed_NoDeed => k_is)
    (case t_NoDeed_NoLine_NoOrder_NoWay => kit_is)
    (case t_none_NoLine_NoOrder_NoWay => kit_is)
    (case x_NoDeed => k_exc)
