import PyProof.Rows.All
import Wide.All
import OpenK.AllK
import Wide.FinOn
import Lean
import PyProof.EqAt
import PyProof.EqKinds
import PyProof.TupleCall
import PySem.Challenge.RW_bitferry_k61_fewer_are_formed
set_option Elab.async false
set_option linter.all false
set_option maxRecDepth 100000
namespace L2
open PySem PySem.Spec PyProof.Rows
abbrev Key := Sum Int Str
def keyIs : Key → Value → Bool
  | .inl k, v => Value.isInt k v
  | .inr x, v => Value.isStrOf x v
def keyH (w : World) : Key → Int
  | .inl k => hashInt k
  | .inr x => hashStr w x
theorem keyIs_shape : ∀ {k : Key} {v : Value}, keyIs k v = true → (∃ i t, k = Sum.inl i ∧ v = Value.int i t) ∨ (∃ x t, k = Sum.inr x ∧ v = Value.str x t)
  | .inl i, v, h => by
    obtain ⟨t, e⟩ := Value.isInt_shape (k := i) (v := v) h
    exact .inl ⟨i, t, rfl, e⟩
  | .inr x, v, h => by
    obtain ⟨t, e⟩ := Value.isStrOf_shape (x := x) (v := v) h
    exact .inr ⟨x, t, rfl, e⟩
theorem keyIs_int (i : Int) (t : Tok) : keyIs (.inl i) (.int i t) = true := by simp [keyIs, Value.isInt]
theorem keyIs_str (x : Str) (t : Tok) : keyIs (.inr x) (.str x t) = true := by simp [keyIs, Value.isStrOf]
theorem key_ll (a b : Int) : decide ((Sum.inl a : Key) = Sum.inl b) = (a == b) := by
  by_cases e : a = b
  · subst e; simp
  · have h : ¬ (Sum.inl a : Key) = Sum.inl b := fun q => e (Sum.inl.inj q)
    rw [decide_eq_false h]
    exact (beq_eq_false_iff_ne.mpr e).symm
theorem key_rr (a b : Str) : decide ((Sum.inr a : Key) = Sum.inr b) = decide (a = b) := by
  by_cases e : a = b
  · subst e; simp
  · have h : ¬ (Sum.inr a : Key) = Sum.inr b := fun q => e (Sum.inr.inj q)
    rw [decide_eq_false h, decide_eq_false e]
theorem key_lr (a : Int) (b : Str) : decide ((Sum.inl a : Key) = Sum.inr b) = false := decide_eq_false (fun q => nomatch q)
theorem key_rl (a : Str) (b : Int) : decide ((Sum.inr a : Key) = Sum.inl b) = false := decide_eq_false (fun q => nomatch q)
def mixKind (prog : Program) (w : World) : PySem.KeyKind prog w Key where
  is := keyIs
  hash := keyH w
  inj := fun v a b ha hb => by
    rcases keyIs_shape ha with ⟨i, t, rfl, rfl⟩ | ⟨x, t, rfl, rfl⟩
    · rcases keyIs_shape hb with ⟨j, u, rfl, e⟩ | ⟨y, u, rfl, e⟩
      · injection e with e1 _; rw [e1]
      · exact nomatch e
    · rcases keyIs_shape hb with ⟨j, u, rfl, e⟩ | ⟨y, u, rfl, e⟩
      · exact nomatch e
      · injection e with e1 _; rw [e1]
  byValue := fun k v h => by
    rcases keyIs_shape h with ⟨i, t, rfl, rfl⟩ | ⟨x, t, rfl, rfl⟩ <;> rfl
  pyHash := fun hv h => by
    rcases keyIs_shape hv with ⟨i, t, rfl, rfl⟩ | ⟨x, t, rfl, rfl⟩
    · exact wpAny_pyHash_int h
    · exact wpAny_pyHash_str h
  eqBool := fun hu hv h => by
    rcases keyIs_shape hu with ⟨i, t, rfl, rfl⟩ | ⟨x, t, rfl, rfl⟩
    · rcases keyIs_shape hv with ⟨j, u, rfl, rfl⟩ | ⟨y, u, rfl, rfl⟩
      · rw [key_ll] at h; exact wpAny_eqBool_int h
      · rw [key_lr] at h; exact SeqAt.EqAt.int_str i t y u _ _ _ _ h
    · rcases keyIs_shape hv with ⟨j, u, rfl, rfl⟩ | ⟨y, u, rfl, rfl⟩
      · rw [key_rl] at h; exact SeqAt.EqAt.str_int x t j u _ _ _ _ h
      · rw [key_rr] at h; exact wpAny_eqBool_str h
  «strs» := fun k x t v h => by
    rcases keyIs_shape h with ⟨i, u, rfl, e⟩ | ⟨y, u, rfl, e⟩
    · exact nomatch e
    · injection e with e1 _
      subst e1
      cases v <;> rfl
theorem mixKind_int (prog : Program) (w : World) (i : Int) (t : Tok) : (mixKind prog w).is (.inl i) (.int i t) = true := keyIs_int i t
theorem mixKind_str (prog : Program) (w : World) (x : Str) (t : Tok) : (mixKind prog w).is (.inr x) (.str x t) = true := keyIs_str x t
end L2
namespace L2
open PySem PySem.Spec PyProof.Rows
inductive V where
  | non | bl (b : Bool) | int (i : Int) | str (x : Str) | byt (b : Array UInt8) | flt (b : UInt64) | ref (a : Addr) | ty (n : String)
  deriving DecidableEq
def RelV : V → Value → Prop
  | .non, u => u = Value.none
  | .bl b, u => u = Value.bool b
  | .int i, u => ∃ t, u = Value.int i t
  | .str x, u => ∃ t, u = Value.str x t
  | .byt b, u => ∃ t, u = Value.bytes b t
  | .flt b, u => ∃ t, u = Value.float b t
  | .ref a, u => u = Value.ref a
  | .ty n, u => u = Value.type n
abbrev Vals : List V → List Value → Prop := Paired RelV
theorem Vals.length {xs : List V} {us : List Value} (r : Vals xs us) : xs.length = us.length := Paired.length r
theorem Vals.get : ∀ {xs : List V} {us : List Value} {i : Nat} {x : V}, Vals xs us → xs[i]? = some x → ∃ u, us[i]? = some u ∧ RelV x u
  | _, _, _, _, .nil, e => by simp at e
  | _, _, 0, _, .cons r _, e => by simp at e; subst e; exact ⟨_, rfl, r⟩
  | _, _, i + 1, x, .cons _ t, e => by
    obtain ⟨u, h1, h2⟩ := Vals.get (i := i) (x := x) t (by simpa using e)
    exact ⟨u, by simpa using h1, h2⟩
theorem Vals.set {x : V} {u : Value} (r : RelV x u) : ∀ {xs : List V} {us : List Value} (i : Nat), Vals xs us → Vals (xs.set i x) (us.set i u)
  | _, _, _, .nil => .nil
  | _, _, 0, .cons _ t => .cons r t
  | _, _, i + 1, .cons q t => .cons q (Vals.set r i t)
theorem Vals.append : ∀ {xs ys : List V} {us ws : List Value}, Vals xs us → Vals ys ws → Vals (xs ++ ys) (us ++ ws)
  | _, _, _, _, .nil, s => s
  | _, _, _, _, .cons r t, s => .cons r (Vals.append t s)
theorem Vals.take : ∀ {xs : List V} {us : List Value} (n : Nat), Vals xs us → Vals (xs.take n) (us.take n)
  | _, _, 0, _ => .nil
  | _, _, _ + 1, .nil => .nil
  | _, _, n + 1, .cons r t => .cons r (Vals.take n t)
theorem Vals.drop : ∀ {xs : List V} {us : List Value} (n : Nat), Vals xs us → Vals (xs.drop n) (us.drop n)
  | _, _, 0, r => r
  | _, _, _ + 1, .nil => .nil
  | _, _, n + 1, .cons _ t => Vals.drop n t
def RelO : Option V → Option Value → Prop
  | some v, some u => RelV v u
  | none, none => True
  | _, _ => False
def KV {κ : Type} : List (κ × V) → List (κ × Value) → Prop := Paired fun (p : κ × V) (q : κ × Value) => p.1 = q.1 ∧ RelV p.2 q.2
def kV : Key → V
  | .inl i => .int i
  | .inr x => .str x
inductive HO where
  | lst (xs : List V)
  | tup (xs : List V)
  | dK (kvs : List (Key × V)) | dT (kvs : List (List Key × V))
  | set (S : Int → Bool) (n : Nat)
  | ins (C dx : Addr) (fs : List (Str × V))
  | own (x : Addr)
  | xd (fs : List (Str × V))
  | met (f x : Addr)
  | rng (lo hi : Int)
  | frz (o : Obj) (u : HO)
  | tbl (ps : Array Value)
  | ext (φ : Heap → Prop)
abbrev Hp := Addr → Option HO
def upd (H : Hp) (a : Addr) (o : HO) : Hp := fun b => if b = a then some o else H b
theorem upd_same {H : Hp} {a : Addr} {o : HO} : upd H a o a = some o := by unfold upd; rw [if_pos rfl]
theorem upd_ne {H : Hp} {a b : Addr} {o : HO} (h : b ≠ a) : upd H a o b = H b := by unfold upd; rw [if_neg h]
theorem ne_of_none {H : Hp} {a b : Addr} {o : HO} (h : H a = some o) (h' : H b = none) : a ≠ b := by
  intro e; subst e; rw [h] at h'; cases h'
section
variable (P : Program) (w : World)
def ObjOk (H : Hp) (h : Heap) (a : Addr) : HO → Prop
  | .lst xs => xs.length ≤ sizeLine ∧ ∃ (its : List Value) (n : Nat), Vals xs its ∧ h.get? a = some { cls := .type "list", data := .seq its.toArray n }
  | .tup xs => xs.length ≤ sizeLine ∧ ∃ its : List Value, Vals xs its ∧ IsTup h a its.toArray
  | .dK kvs => kvs.length ≤ sizeLine ∧ (a == sysModules) = false ∧ ∃ vs, KV kvs vs ∧ h.DictOf (mixKind P w) a vs
  | .dT kvs => kvs.length ≤ sizeLine ∧ (a == sysModules) = false ∧ ∃ xs : List (List Key × Addr × Value),
      Paired (fun (p : List Key × V) (q : List Key × Addr × Value) => p.1 = q.1 ∧ H q.2.1 = some (.tup (p.1.map kV)) ∧ RelV p.2 q.2.2) kvs xs ∧
      ∃ o es ep, h.get? a = some o ∧ o.ExactDict ∧ o.data = .dict es ep ∧ es.toList = xs.map (entryOfKey (tupleKind (mixKind P w))) ∧ (xs.map (·.1)).Nodup
  | .set S n => h.SetOf (intKind P w) a S n
  | .ins C dx fs => H dx = some (.own a) ∧ fs.length ≤ 1000 ∧ dx ≠ a ∧ h.get? a = some (PySem.W.instObj C dx) ∧
      ∃ mA, h.Ns1 dx mA ∧ (∀ f, RelO (fs.lookup f) (mA f)) ∧ PySem.Within mA (fs.map (·.1))
  | .own _ => ∃ o, h.get? a = some o
  | .xd fs => ∃ mA, h.Ns1 a mA ∧ ∀ f, RelO (fs.lookup f) (mA f)
  | .rng lo hi => ∃ t u v, h.get? a = some { cls := .type "range", data := .fields #[.int lo t, .int hi u, .int 1 v] }
  | .frz o u => h.get? a = some o ∧ ObjOk H h a u
  | .tbl ps => h.get? a = some { cls := .none, data := .fields ps }
  | .met f x => h.get? a = some (PySem.W.methodObj (.ref f) (.ref x))
  | .ext φ => φ h ∧ (∃ o, h.get? a = some o) ∧ ∀ h1 h2 : Heap, φ h1 → (∀ o, h1.get? a = some o → h2.get? a = some o) → φ h2
def HOk (H : Hp) (h : Heap) : Prop := ∀ a o, H a = some o → ObjOk P w H h a o
end
section
variable {P : Program} {w : World} {H H' : Hp} {h h' : Heap} {a : Addr} {o : HO}
theorem ObjOk.lt (x : ObjOk P w H h a o) : a < h.objs.size := by
  cases o with
  | lst xs => obtain ⟨_, _, _, _, e⟩ := x; exact Heap.lt_size e
  | tup xs => obtain ⟨_, _, _, p⟩ := x; exact p.lt
  | dK kvs => obtain ⟨_, _, _, _, o, _, _, e, _⟩ := x; exact Heap.lt_size e
  | dT kvs => obtain ⟨_, _, _, _, o, _, _, e, _⟩ := x; exact Heap.lt_size e
  | set S n => obtain ⟨o, _, _, _, e, _⟩ := x; exact Heap.lt_size e
  | ins C dx fs => obtain ⟨_, _, _, e, _⟩ := x; exact Heap.lt_size e
  | own y => obtain ⟨_, e⟩ := x; exact Heap.lt_size e
  | xd fs => obtain ⟨_, ⟨_, _, _, e, _⟩, _⟩ := x; exact Heap.lt_size e
  | rng lo hi => obtain ⟨_, _, _, e⟩ := x; exact Heap.lt_size e
  | frz ob u => obtain ⟨e, _⟩ := x; exact Heap.lt_size e
  | tbl ps => exact Heap.lt_size (show h.get? a = some _ from x)
  | met f y => exact Heap.lt_size (show h.get? a = some _ from x)
  | ext φ => obtain ⟨_, ⟨_, e⟩, _⟩ := x; exact Heap.lt_size e
theorem Paired.mapP {α β : Type} {F G : α → β → Prop} : ∀ {l₁ : List α} {l₂ : List β}, Paired F l₁ l₂ → (∀ a b, F a b → G a b) → Paired G l₁ l₂
  | _, _, .nil, _ => .nil
  | _, _, .cons r t, f => .cons (f _ _ r) (Paired.mapP t f)
theorem ObjOk.stay (x : ObjOk P w H h a o) (k : ∀ b u, (b = a ∨ H b = some (.own a)) → h.get? b = some u → h'.get? b = some u)
    (ho : ∀ b, H b = some (.own a) → H' b = some (.own a)) (ht : ∀ b xs, H b = some (.tup xs) → H' b = some (.tup xs)) : ObjOk P w H' h' a o := by
  induction o with
  | lst xs => obtain ⟨z, its, n, r, e⟩ := x; exact ⟨z, its, n, r, k _ _ (.inl rfl) e⟩
  | tup xs => obtain ⟨z, its, r, ob, e, c⟩ := x; exact ⟨z, its, r, ob, k _ _ (.inl rfl) e, c⟩
  | dK kvs => obtain ⟨z, y, vs, r, ob, es, ep, e, c⟩ := x; exact ⟨z, y, vs, r, ob, es, ep, k _ _ (.inl rfl) e, c⟩
  | dT kvs =>
    obtain ⟨z, y, xs, r, ob, es, ep, e, c⟩ := x
    exact ⟨z, y, xs, Paired.mapP r fun p q z => ⟨z.1, ht _ _ z.2.1, z.2.2⟩, ob, es, ep, k _ _ (.inl rfl) e, c⟩
  | set S n => obtain ⟨ob, es, ep, t, e, c⟩ := x; exact ⟨ob, es, ep, t, k _ _ (.inl rfl) e, c⟩
  | ins C dx fs =>
    obtain ⟨d, z, ne, e, mA, ⟨od, es, ep, e2, c⟩, r⟩ := x
    exact ⟨ho _ d, z, ne, k _ _ (.inl rfl) e, mA, ⟨od, es, ep, k _ _ (.inr d) e2, c⟩, r⟩
  | own y => obtain ⟨ob, e⟩ := x; exact ⟨ob, k _ _ (.inl rfl) e⟩
  | xd fs => obtain ⟨mA, ⟨od, es, ep, e, c⟩, r⟩ := x; exact ⟨mA, ⟨od, es, ep, k _ _ (.inl rfl) e, c⟩, r⟩
  | rng lo hi => obtain ⟨t, u, v, e⟩ := x; exact ⟨t, u, v, k _ _ (.inl rfl) e⟩
  | frz ob u ih => obtain ⟨e, q⟩ := x; exact ⟨k _ _ (.inl rfl) e, ih q⟩
  | tbl ps =>
    have e : h.get? a = some { cls := .none, data := .fields ps } := x
    show h'.get? a = some { cls := .none, data := .fields ps }
    exact k a _ (.inl rfl) e
  | met f y =>
    have e : h.get? a = some (PySem.W.methodObj (.ref f) (.ref y)) := x
    show h'.get? a = some (PySem.W.methodObj (.ref f) (.ref y))
    exact k a _ (.inl rfl) e
  | ext φ => obtain ⟨p, ⟨o, e⟩, st⟩ := x; exact ⟨st _ _ p fun o q => k _ _ (.inl rfl) q, ⟨o, k _ _ (.inl rfl) e⟩, st⟩
theorem HOk.lt (x : HOk P w H h) (e : H a = some o) : a < h.objs.size := (x a o e).lt
theorem HOk.fresh (x : HOk P w H h) (e : h.objs.size ≤ a) : H a = none := by
  cases q : H a with
  | none => rfl
  | some u => exact absurd (Nat.lt_of_lt_of_le (x.lt q) e) (Nat.lt_irrefl _)
theorem HOk.kept (x : HOk P w H h) (k : ∀ b u, h.get? b = some u → h'.get? b = some u) : HOk P w H h' := fun a o e =>
  (x a o e).stay (fun b u _ q => k b u q) (fun _ q => q) fun _ _ q => q
theorem HOk.laid (x : HOk P w H h) (k : ∀ b u, h.get? b = some u → h'.get? b = some u) (hp : h.objs.size ≤ a) (new : ObjOk P w (upd H a o) h' a o) : HOk P w (upd H a o) h' := fun b u e => by
  have hn := x.fresh hp
  by_cases hb : b = a
  · subst hb; rw [upd_same] at e; cases e; exact new
  · rw [upd_ne hb] at e
    exact (x b u e).stay (fun c v _ q => k c v q) (fun c q => by rw [upd_ne (ne_of_none q hn)]; exact q) fun c xs q => by rw [upd_ne (ne_of_none q hn)]; exact q
end
def Rd (H : Hp) (a : Addr) (u : HO) : Prop := H a = some u ∨ ∃ o, H a = some (.frz o u)
theorem Rd.of {H : Hp} {a : Addr} {u : HO} (h : H a = some u) : Rd H a u := .inl h
theorem Rd.ok {P : Program} {w : World} {H : Hp} {h : Heap} {a : Addr} {u : HO} (r : Rd H a u) (x : HOk P w H h) : ObjOk P w H h a u := by
  rcases r with r | ⟨o, r⟩
  · exact x a u r
  · obtain ⟨_, q⟩ := x a _ r
    exact q
def Mut : Option HO → Prop
  | some (.lst _) => True
  | some (.dK _) => True
  | some (.dT _) => True
  | some (.set _ _) => True
  | some (.ins _ _ _) => True
  | some (.ext _) => True
  | _ => False
section
variable {P : Program} {w : World} {H : Hp} {h h' : Heap} {x e : Addr} {o' : HO}
theorem HOk.write (ok : HOk P w H h) (mu : Mut (H x)) (he : e = x ∨ H e = some (.own x)) (k : ∀ b u, b ≠ e → h.get? b = some u → h'.get? b = some u) (heo : ∃ u, h'.get? e = some u)
    (new : ObjOk P w (upd H x o') h' x o') : HOk P w (upd H x o') h' := fun b u q => by
  have nown : ∀ c y, H c = some (.own y) → c ≠ x := fun c y r z => by subst z; rw [r] at mu; exact mu
  have ntup : ∀ c xs, H c = some (.tup xs) → c ≠ x := fun c xs r z => by subst z; rw [r] at mu; exact mu
  by_cases hb : b = x
  · subst hb; rw [upd_same] at q; cases q; exact new
  · rw [upd_ne hb] at q
    by_cases hbe : b = e
    · have q' : H b = some (.own x) := by
        rcases he with z | z
        · exact absurd (hbe.trans z) hb
        · rw [hbe]; exact z
      rw [q] at q'; cases q'
      obtain ⟨v, hv⟩ := heo
      exact ⟨v, by rw [hbe]; exact hv⟩
    · refine (ok b u q).stay (fun c v hc r => k c v ?_ r) (fun c r => by rw [upd_ne (nown c b r)]; exact r) fun c xs r => by rw [upd_ne (ntup c xs r)]; exact r
      rcases hc with rfl | hc
      · exact hbe
      · rintro rfl
        rcases he with z | z
        · exact nown c b hc z
        · rw [hc] at z; cases z; exact hb rfl
end
structure Un (fs ex : List Addr) (H H' : Hp) (h h' : Heap) : Prop where
  keep : ∀ b o, h.get? b = some o → H b = none → b ∉ fs → b ∉ ex → h'.get? b = some o
  slot : ∀ b o, h.get? b = some o → H b = none → b ∈ fs → b ∉ ex → ∃ sl, h'.get? b = some { o with slots := sl }
  free : ∀ b o, h.get? b = some o → H b = none → b ∉ ex → H' b = none
  there : ∀ b o, h.get? b = some o → b ∉ ex → ∃ o', h'.get? b = some o'
  tups : ∀ b xs, H b = some (.tup xs) → H' b = some (.tup xs)
  frzs : ∀ b o u, H b = some (.frz o u) → H' b = some (.frz o u)
  tbls : ∀ b ps, H b = some (.tbl ps) → ∃ more, H' b = some (.tbl (ps ++ more))
section
variable {fs fs' ex ex' : List Addr} {H H1 H2 : Hp} {h h1 h2 h' : Heap} {a x e : Addr} {o : HO}
theorem Un.any (u : Un fs ex H H1 h h1) {b : Addr} {ob : Obj} (q : h.get? b = some ob) (n : H b = none) (hx : b ∉ ex) : ∃ sl, h1.get? b = some { ob with slots := sl } := by
  by_cases hb : b ∈ fs
  · exact u.slot b ob q n hb hx
  · exact ⟨ob.slots, u.keep b ob q n hb hx⟩
theorem Un.trans (a : Un fs ex H H1 h h1) (b : Un fs ex H1 H2 h1 h2) : Un fs ex H H2 h h2 where
  keep := fun c ob q n hc hx => b.keep c ob (a.keep c ob q n hc hx) (a.free c ob q n hx) hc hx
  slot := fun c ob q n hc hx => by
    obtain ⟨sl, e1⟩ := a.slot c ob q n hc hx
    obtain ⟨sl', e2⟩ := b.slot c _ e1 (a.free c ob q n hx) hc hx
    exact ⟨sl', e2⟩
  free := fun c ob q n hx => by
    obtain ⟨o', e1⟩ := a.there c ob q hx
    exact b.free c o' e1 (a.free c ob q n hx) hx
  there := fun c ob q hx => by
    obtain ⟨o', e1⟩ := a.there c ob q hx
    exact b.there c o' e1 hx
  tups := fun c xs q => b.tups c xs (a.tups c xs q)
  frzs := fun c ob xs q => b.frzs c ob xs (a.frzs c ob xs q)
  tbls := fun c ps q => by
    obtain ⟨m1, e1⟩ := a.tbls c ps q
    obtain ⟨m2, e2⟩ := b.tbls c _ e1
    exact ⟨m1 ++ m2, by rw [e2, Array.append_assoc]⟩
theorem Un.kept (k : ∀ b u, h.get? b = some u → h'.get? b = some u) : Un fs ex H H h h' :=
  ⟨fun b ob q _ _ _ => k b ob q, fun b ob q _ _ _ => ⟨ob.slots, k b ob q⟩, fun _ _ _ n _ => n, fun b ob q _ => ⟨ob, k b ob q⟩, fun _ _ q => q, fun _ _ _ q => q, fun _ ps q => ⟨#[], by rw [q]; simp⟩⟩
theorem Un.refl : Un fs ex H H h h := Un.kept fun _ _ q => q
theorem Un.laid (k : ∀ b u, h.get? b = some u → h'.get? b = some u) (hp : h.objs.size ≤ a) (hn : H a = none) : Un fs ex H (upd H a o) h h' where
  keep := fun b u q _ _ _ => k b u q
  slot := fun b u q _ _ _ => ⟨u.slots, k b u q⟩
  free := fun b u q n _ => by rw [upd_ne (Nat.ne_of_lt (Nat.lt_of_lt_of_le (Heap.lt_size q) hp))]; exact n
  there := fun b u q _ => ⟨u, k b u q⟩
  tups := fun b xs q => by rw [upd_ne (ne_of_none q hn)]; exact q
  frzs := fun b u xs q => by rw [upd_ne (ne_of_none q hn)]; exact q
  tbls := fun b ps q => ⟨#[], by rw [upd_ne (ne_of_none q hn), q]; simp⟩
theorem Un.write (mu : Mut (H x)) (he : e = x ∨ H e = some (.own x)) (k : ∀ b u, b ≠ e → h.get? b = some u → h'.get? b = some u) (heo : ∃ u, h'.get? e = some u) : Un fs ex H (upd H x o) h h' := by
  have hx : ∀ b, H b = none → b ≠ x := fun b n z => by subst z; rw [n] at mu; exact mu
  have hb : ∀ b, H b = none → b ≠ e := fun b n z => by
    subst z
    rcases he with r | r
    · exact hx b n r
    · rw [n] at r; cases r
  have hm : ∀ b u, H b = some u → ¬ Mut (some u) → b ≠ x := fun b u q nm z => by subst z; rw [q] at mu; exact nm mu
  refine ⟨fun b u q n _ _ => k b u (hb b n) q, fun b u q n _ _ => ⟨u.slots, k b u (hb b n) q⟩, fun b u q n _ => by rw [upd_ne (hx b n)]; exact n, fun b u q _ => ?_,
    fun b xs q => by rw [upd_ne (hm b _ q fun z => z)]; exact q, fun b u xs q => by rw [upd_ne (hm b _ q fun z => z)]; exact q, fun b ps q => ⟨#[], by rw [upd_ne (hm b _ q fun z => z), q]; simp⟩⟩
  by_cases hbe : b = e
  · subst hbe; exact heo
  · exact ⟨u, k b u hbe q⟩
theorem Un.mono (u : Un fs ex H H1 h h1) (hs : ∀ b ∈ fs, b ∈ fs') (hx : ∀ b ∈ ex, b ∈ ex') : Un fs' ex' H H1 h h1 :=
  ⟨fun b ob q n hb he => u.keep b ob q n (fun z => hb (hs b z)) fun z => he (hx b z), fun _ _ q n _ he => u.any q n fun z => he (hx _ z), fun b ob q n he => u.free b ob q n fun z => he (hx b z), fun b ob q he => u.there b ob q fun z => he (hx b z), u.tups, u.frzs, u.tbls⟩
end
def trk (h : Heap) (H : Hp) : List Addr := (List.range h.objs.size).filter fun a => (H a).isSome
def hidT (h : Heap) (H : Hp) : Heap := PySem.W.hideAll h (trk h H)
theorem hidT_size (h : Heap) (H : Hp) : (hidT h H).objs.size = h.objs.size := PySem.W.hideAll_size _ _
theorem hidT_get {h : Heap} {H : Hp} {b : Addr} {o : Obj} (e : h.get? b = some o) (n : H b = none) : (hidT h H).get? b = some o :=
  PySem.W.hideAll_get _ e fun hm => by
    have q : (H b).isSome = true := (List.mem_filter.mp hm).2
    rw [n] at q; simp at q
theorem of_hidT {h : Heap} {H : Hp} {b : Addr} {o : Obj} (e : (hidT h H).get? b = some o) : h.get? b = some o ∧ H b = none := by
  have e' : h.get? b = some o := PySem.W.of_hideAll (trk h H) e
  refine ⟨e', ?_⟩
  cases q : H b with
  | none => rfl
  | some x =>
    have hm : b ∈ trk h H := List.mem_filter.mpr ⟨List.mem_range.mpr (Heap.lt_size e'), by simp [q]⟩
    have z : (hidT h H).get? b = none := PySem.W.hideAll_none (trk h H) hm
    rw [z] at e; cases e
def allNews (g h : Heap) (L : Addr) : List (Addr × Obj) := (List.range h.objs.size).filterMap fun a => if a = L ∨ (g.get? a).isSome = true then none else (h.get? a).map fun o => (a, o)
def rest (g h : Heap) (L d : Addr) : List (Addr × Obj) := (allNews g h L).filter fun p => decide (p.1 ≠ d)
end L2
namespace L2
open PySem PySem.Spec PyProof.Rows
structure Mod (K : PySem.W.Frag) (mg : Str → Option Value) (base : Heap) : Prop where
  kin : K.In base
  glob : base.Ns mainGlobals mg
  blt : ∃ mb, base.Ns builtinsNs mb ∧ ∀ x : Str, x ≠ "__name__" → mb x = bootBuiltins x
  nolimit : base.NoLimit
structure Cx where
  prog : Program
  w : World
  K : PySem.W.Frag
  mg : Str → Option Value
  base : Heap
  A : Around
  N : List Str
  s₀ : Shared
  H₀ : Hp
  env : Env
  outer : List Env
  stack : List Env
  ex : List Addr
  fn : Str → Bool
  calm : Bool
  pn : List (Addr × Obj)
  xe : Value → Shared → Prop
def frs (l : List Env) : List Addr := l.filterMap (·.frame)
abbrev Cx.fs (X : Cx) : List Addr := frs X.outer
def Vis (sc : Scope) (x : Str) : Prop := sc.names.lookup x = some .local ∨ sc.names.lookup x = some .cell ∨ sc.names.lookup x = some .free
def Loc (sc : Scope) (x : Str) : Prop := sc.names.lookup x = some .local ∨ sc.names.lookup x = some .cell
def Look (env : Env) (h : Heap) (m : Str → Option Value) (x : Str) (u : Value) : Prop :=
  (env.kindOf x = some .local ∧ m x = some u) ∨ ((env.kindOf x = some .cell ∨ env.kindOf x = some .free) ∧ ∃ c, env.cells.lookup x = some c ∧ h.IsCell c (some u))
structure Cx.Ok (X : Cx) : Prop where
  mod : Mod X.K X.mg X.base
  kind : X.env.scope.kind = .function
  glob : X.env.globals = mainGlobals
  blt : X.env.builtins = builtinsNs
  above : X.s₀.heap.objs.size ≤ X.env.locals
  inj : ∀ x y c, X.env.cells.lookup x = some c → X.env.cells.lookup y = some c → x = y
  has : ∀ x, (X.env.kindOf x = some .cell ∨ X.env.kindOf x = some .free) → ∃ c, X.env.cells.lookup x = some c
  cab : ∀ x c, X.fn x = true → X.env.cells.lookup x = some c → X.s₀.heap.objs.size ≤ c
  hd : X.calm = true → X.A.handled = none
  frames : X.A.frames = some X.stack
  stk : X.stack = X.outer ∨ (X.stack = X.env :: X.outer ∧ X.env.frame = some X.env.locals)
  exf : ∀ b ∈ X.ex, b ≠ X.env.locals ∧ ∀ x c, X.env.cells.lookup x = some c → c ≠ b
  bs : ∀ b o, X.base.get? b = some o → X.s₀.heap.get? b = some o ∧ X.H₀ b = none
  bsz : X.base.objs.size ≤ X.s₀.heap.objs.size
  noex : ∀ b o, X.base.get? b = some o → b ∉ X.ex
  exfs : ∀ b ∈ X.ex, b ∉ X.fs
  funs : X.s₀.heap.FunFrames X.base X.outer
  frf : ∀ b ∈ X.fs, X.H₀ b = none
structure Inv (X : Cx) (pins : List (Addr × Obj)) (σ : List (Option V)) (H : Hp) (s : Shared) : Prop where
  ok : X.Ok
  os : s.os = X.s₀.os
  bare : AllBare s.gens
  base : Un X.fs X.ex X.H₀ H X.s₀.heap s.heap
  loc : ∃ m, s.heap.Ns X.env.locals m ∧ ∀ (i : Nat) (x : Str) (v : V), X.N[i]? = some x → σ[i]? = some (some v) → Vis X.env.scope x → ∃ u, RelV v u ∧ Look X.env s.heap m x u
  cell : ∀ x c, X.env.cells.lookup x = some c → ∃ v, s.heap.IsCell c v
  free : H X.env.locals = none
  freeC : ∀ x c, X.env.cells.lookup x = some c → H c = none
  pin : ∀ p ∈ X.pn ++ pins, s.heap.get? p.1 = some p.2 ∧ H p.1 = none ∧ p.1 ≠ X.env.locals ∧ p.1 ∉ X.fs ∧ ∀ v, p.2.data ≠ .cell v
  hok : HOk X.prog X.w H s.heap
  len : σ.length = X.N.length
section
variable {X : Cx} {pins : List (Addr × Obj)} {σ : List (Option V)} {H H' : Hp} {s : Shared} {h' : Heap}
theorem Cx.Ok.nofr (ok : X.Ok) {b : Addr} {o : Obj} (e : X.base.get? b = some o) : b ∉ X.fs := fun hb => by
  have := (ok.funs.mem hb).1
  rw [e] at this; cases this
theorem Inv.bs (I : Inv X pins σ H s) : ∀ b o, X.base.get? b = some o → s.heap.get? b = some o ∧ H b = none := fun b o e =>
  ⟨I.base.keep b o (I.ok.bs b o e).1 (I.ok.bs b o e).2 (I.ok.nofr e) (I.ok.noex b o e), I.base.free b o (I.ok.bs b o e).1 (I.ok.bs b o e).2 (I.ok.noex b o e)⟩
theorem Inv.bk (I : Inv X pins σ H s) : ∀ b o, X.base.get? b = some o → s.heap.get? b = some o := fun b o e => (I.bs b o e).1
theorem Inv.mod (I : Inv X pins σ H s) : Mod X.K X.mg X.base := I.ok.mod
theorem Inv.kIn (I : Inv X pins σ H s) : X.K.In s.heap := I.ok.mod.kin.keeps I.bk
theorem Inv.nolimit (I : Inv X pins σ H s) : s.heap.NoLimit := I.ok.mod.nolimit.keeps I.bk
theorem Inv.fr (I : Inv X pins σ H s) : ∃ m, Fr X.base X.env.locals s.heap m :=
  let ⟨m, hn, _⟩ := I.loc
  ⟨m, hn, I.bk, Nat.le_trans I.ok.bsz I.ok.above⟩
theorem Inv.lt (I : Inv X pins σ H s) : X.env.locals < s.heap.objs.size := let ⟨_, hn, _⟩ := I.loc; hn.lt
theorem Inv.sz (I : Inv X pins σ H s) : X.s₀.heap.objs.size ≤ s.heap.objs.size := Nat.le_trans I.ok.above (Nat.le_of_lt I.lt)
theorem Inv.nofs (I : Inv X pins σ H s) {a : Addr} (h : s.heap.objs.size ≤ a) : a ∉ X.fs := fun hb => by
  obtain ⟨_, o, ho, _⟩ := I.ok.funs.mem hb
  exact absurd (Nat.lt_of_lt_of_le (Heap.lt_size ho) (Nat.le_trans I.sz h)) (Nat.lt_irrefl _)
theorem Inv.cne (I : Inv X pins σ H s) : ∀ x c, X.env.cells.lookup x = some c → c ≠ X.env.locals := fun x c e z => by
  obtain ⟨v, o, ho, hd⟩ := I.cell x c e
  obtain ⟨m, ⟨o', es, ep, ho', hd', _⟩, _⟩ := I.loc
  rw [z, ho'] at ho; cases ho; rw [hd'] at hd; cases hd
theorem Inv.funs (I : Inv X pins σ H s) : s.heap.FunFrames X.base X.outer := by
  have all : ∀ (l : List Env), (∀ b ∈ frs l, b ∈ X.fs) → X.s₀.heap.FunFrames X.base l → s.heap.FunFrames X.base l := by
    intro l
    induction l with
    | nil => intro _ _; trivial
    | cons env r ih =>
      intro hs hl
      obtain ⟨hk, ⟨L, o, hf, hn, ho, hd⟩, hr⟩ := hl
      have hL : L ∈ X.fs := hs L (by unfold frs; rw [List.filterMap_cons, hf]; exact List.mem_cons_self)
      obtain ⟨sl, e⟩ := I.base.slot L o ho (I.ok.frf L hL) hL fun z => I.ok.exfs L z hL
      exact ⟨hk, ⟨L, _, hf, hn, e, hd⟩, ih (fun b hb => hs b (by unfold frs; rw [List.filterMap_cons, hf]; exact List.mem_cons_of_mem _ hb)) hr⟩
  exact all X.outer (fun _ hb => hb) I.ok.funs
theorem Inv.stack (I : Inv X pins σ H s) : s.heap.FunFrames X.base X.stack := by
  rcases I.ok.stk with e | ⟨e, hf⟩
  · rw [e]; exact I.funs
  · rw [e]
    obtain ⟨m, hn, _⟩ := I.loc
    refine .cons (by rw [I.ok.kind]; decide) hf hn ?_ I.funs
    exact Heap.get?_none_of_le (Nat.le_trans I.ok.bsz I.ok.above)
theorem Inv.stkSub (I : Inv X pins σ H s) : ∀ b ∈ frs X.stack, b ∈ X.env.locals :: X.fs := fun b hb => by
  rcases I.ok.stk with e | ⟨e, hf⟩
  · rw [e] at hb; exact List.mem_cons_of_mem _ hb
  · rw [e] at hb
    unfold frs at hb
    rw [List.filterMap_cons, hf] at hb
    exact hb
theorem Inv.stkFree (I : Inv X pins σ H s) : ∀ b ∈ frs X.stack, H b = none := fun b hb => by
  rcases List.mem_cons.mp (I.stkSub b hb) with e | hb
  · rw [e]; exact I.free
  · obtain ⟨_, o, ho, _⟩ := I.ok.funs.mem hb
    exact I.base.free b o ho (I.ok.frf b hb) fun z => I.ok.exfs b z hb
theorem Inv.step {g' : Array GenState} {t' : Nat} {d' : Drawn} {ch : List Addr} (I : Inv X pins σ H s)
    (hch : ∀ b ∈ ch, (b ∈ X.ex ∨ X.s₀.heap.objs.size ≤ b) ∧ b ≠ X.env.locals ∧ (∀ x c, X.env.cells.lookup x = some c → c ≠ b) ∧ ∀ p ∈ X.pn ++ pins, p.1 ≠ b)
    (keep : ∀ b o, b ≠ X.env.locals → b ∉ X.fs → b ∉ ch → s.heap.get? b = some o → H b = none → h'.get? b = some o)
    (slot : ∀ b o, b ≠ X.env.locals → b ∈ X.fs → b ∉ ch → s.heap.get? b = some o → H b = none → ∃ sl, h'.get? b = some { o with slots := sl }) (free : ∀ b o, b ∉ ch → s.heap.get? b = some o → H b = none → H' b = none)
    (there : ∀ b o, b ∉ ch → s.heap.get? b = some o → ∃ o', h'.get? b = some o')
    (tups : ∀ b xs, H b = some (.tup xs) → H' b = some (.tup xs)) (frzs : ∀ b o u, H b = some (.frz o u) → H' b = some (.frz o u)) (tbls : ∀ b ps, H b = some (.tbl ps) → ∃ more, H' b = some (.tbl (ps ++ more)))
    (ns : ∀ m, s.heap.Ns X.env.locals m → h'.Ns X.env.locals m) (hok : HOk X.prog X.w H' h') (hg : AllBare g') :
    Inv X pins σ H' { s with heap := h', gens := g', drawn := d', toks := t' } := by
  have neL : ∀ b o, X.s₀.heap.get? b = some o → b ≠ X.env.locals := fun b o e => Nat.ne_of_lt (Nat.lt_of_lt_of_le (Heap.lt_size e) I.ok.above)
  have neC : ∀ b o, X.s₀.heap.get? b = some o → b ∉ X.ex → b ∉ ch := fun b o e hx hb => by
    rcases (hch b hb).1 with z | z
    · exact hx z
    · exact absurd (Nat.lt_of_lt_of_le (Heap.lt_size e) z) (Nat.lt_irrefl _)
  have cellK : ∀ x c, X.env.cells.lookup x = some c → ∀ v, s.heap.IsCell c v → h'.IsCell c v := fun x c e v ⟨o, ho, hd⟩ => by
    have nch : c ∉ ch := fun z => (hch c z).2.2.1 x c e rfl
    by_cases hc : c ∈ X.fs
    · obtain ⟨sl, q⟩ := slot c o (I.cne x c e) hc nch ho (I.freeC x c e)
      exact ⟨_, q, hd⟩
    · exact ⟨o, keep c o (I.cne x c e) hc nch ho (I.freeC x c e), hd⟩
  refine ⟨I.ok, I.os, hg, ⟨fun b o e n hb hx => ?_, fun b o e n hb hx => ?_, fun b o e n hx => ?_, fun b o e hx => ?_, fun b xs e => tups b xs (I.base.tups b xs e), fun b o xs e => frzs b o xs (I.base.frzs b o xs e), fun b ps e => ?_⟩, ?_, fun x c e => ?_, ?_, fun x c e => ?_, fun p hp => ?_, hok, I.len⟩
  · exact keep b o (neL b o e) hb (neC b o e hx) (I.base.keep b o e n hb hx) (I.base.free b o e n hx)
  · obtain ⟨sl, e1⟩ := I.base.slot b o e n hb hx
    obtain ⟨sl', e2⟩ := slot b _ (neL b o e) hb (neC b o e hx) e1 (I.base.free b o e n hx)
    exact ⟨sl', e2⟩
  · obtain ⟨o', e1⟩ := I.base.there b o e hx
    exact free b o' (neC b o e hx) e1 (I.base.free b o e n hx)
  · obtain ⟨o', e1⟩ := I.base.there b o e hx
    exact there b o' (neC b o e hx) e1
  · obtain ⟨m1, e1⟩ := I.base.tbls b ps e
    obtain ⟨m2, e2⟩ := tbls b _ e1
    exact ⟨m1 ++ m2, by rw [e2, Array.append_assoc]⟩
  · obtain ⟨m, hn, hl⟩ := I.loc
    refine ⟨m, ns m hn, fun i x v e1 e2 e3 => ?_⟩
    obtain ⟨u, r, l⟩ := hl i x v e1 e2 e3
    refine ⟨u, r, ?_⟩
    rcases l with l | ⟨k, c, e, z⟩
    · exact .inl l
    · exact .inr ⟨k, c, e, cellK x c e _ z⟩
  · obtain ⟨v, z⟩ := I.cell x c e
    exact ⟨v, cellK x c e v z⟩
  · obtain ⟨m, ⟨o, _, _, ho, _⟩, _⟩ := I.loc
    exact free _ o (fun z => (hch _ z).2.1 rfl) ho I.free
  · obtain ⟨v, o, ho, hd⟩ := I.cell x c e
    exact free c o (fun z => (hch c z).2.2.1 x c e rfl) ho (I.freeC x c e)
  · obtain ⟨e, n, ne, nf, d⟩ := I.pin p hp
    have nch : p.1 ∉ ch := fun z => (hch p.1 z).2.2.2 p hp rfl
    exact ⟨keep p.1 p.2 ne nf nch e n, free p.1 p.2 nch e n, ne, nf, d⟩
theorem Inv.un {t' : Nat} (I : Inv X pins σ H s) (u : Un X.fs [] H H' s.heap h') (hok : HOk X.prog X.w H' h') : Inv X pins σ H' { s with heap := h', toks := t' } := by
  obtain ⟨m, ⟨o, es, ep, ho, r⟩, _⟩ := id I.loc
  obtain ⟨sl, hL⟩ := u.any ho I.free (by simp)
  exact I.step (g' := s.gens) (d' := s.drawn) (ch := []) (fun _ z => nomatch z) (fun b o _ hb _ e n => u.keep b o e n hb (by simp)) (fun b o _ hb _ e n => u.slot b o e n hb (by simp)) (fun b o _ e n => u.free b o e n (by simp)) (fun b o _ e => u.there b o e (by simp)) u.tups u.frzs u.tbls (fun m' hm => by
    obtain ⟨o', es', ep', ho', r'⟩ := hm
    rw [ho] at ho'; cases ho'
    exact ⟨_, es', ep', hL, r'⟩) hok I.bare
theorem Inv.call {g' : Array GenState} {t' : Nat} {d' : Drawn} {ch : List Addr} (I : Inv X pins σ H s) (u : Un (frs X.stack) ch H H' s.heap h') (hok : HOk X.prog X.w H' h') (hg : AllBare g')
    (hch : ∀ b ∈ ch, (b ∈ X.ex ∨ X.s₀.heap.objs.size ≤ b) ∧ b ≠ X.env.locals ∧ (∀ x c, X.env.cells.lookup x = some c → c ≠ b) ∧ ∀ p ∈ X.pn ++ pins, p.1 ≠ b) :
    Inv X pins σ H' { s with heap := h', gens := g', drawn := d', toks := t' } := by
  obtain ⟨m, ⟨o, es, ep, ho, r⟩, _⟩ := id I.loc
  obtain ⟨sl, hL⟩ := u.any ho I.free fun z => (hch _ z).2.1 rfl
  exact I.step (ch := ch) hch (fun b o hL hb hc e n => u.keep b o e n (fun z => (List.mem_cons.mp (I.stkSub b z)).elim hL hb) hc) (fun b o _ _ hc e n => u.any e n hc) (fun b o hc e n => u.free b o e n hc) (fun b o hc e => u.there b o e hc) u.tups u.frzs u.tbls (fun m' hm => by
    obtain ⟨o', es', ep', ho', r'⟩ := hm
    rw [ho] at ho'; cases ho'
    exact ⟨_, es', ep', hL, r'⟩) hok hg
theorem Inv.turned {t' : Nat} {it : Addr} (I : Inv X pins σ H s) (k : ∀ b o, b ≠ it → s.heap.get? b = some o → h'.get? b = some o) (hn : H it = none) (hL : it ≠ X.env.locals)
    (h1 : it ∈ X.ex ∨ X.s₀.heap.objs.size ≤ it) (h2 : ∀ x c, X.env.cells.lookup x = some c → c ≠ it) (h3 : ∀ p ∈ X.pn ++ pins, p.1 ≠ it) : Inv X pins σ H { s with heap := h', toks := t' } := by
  have nit : ∀ b u, H b = some u → b ≠ it := fun b u e z => by rw [z, hn] at e; cases e
  refine I.step (g' := s.gens) (d' := s.drawn) (ch := [it]) (fun b hb => ?_) (fun b o _ _ hc e _ => k b o (fun z => hc (by simp [z])) e) (fun b o _ _ hc e _ => ⟨o.slots, k b o (fun z => hc (by simp [z])) e⟩) (fun _ _ _ _ n => n)
    (fun b o hc e => ⟨o, k b o (fun z => hc (by simp [z])) e⟩) (fun _ _ e => e) (fun _ _ _ e => e) (fun b ps e => ⟨#[], by rw [e]; simp⟩) (fun m hm => ?_) (fun b u e => ?_) I.bare
  · have e : b = it := by simpa using hb
    subst e
    exact ⟨h1, hL, h2, h3⟩
  · obtain ⟨o, es, ep, ho, r⟩ := hm
    exact ⟨o, es, ep, k _ o (Ne.symm hL) ho, r⟩
  · refine (I.hok b u e).stay (fun c v hc q => k c v ?_ q) (fun _ q => q) fun _ _ q => q
    rcases hc with z | z
    · rw [z]; exact nit b u e
    · exact nit c _ z
theorem Inv.tok (I : Inv X pins σ H s) (t : Nat) : Inv X pins σ H { s with toks := t } := I.un (h' := s.heap) (t' := t) Un.refl I.hok
theorem Inv.kept {t' : Nat} (I : Inv X pins σ H s) (k : ∀ b u, s.heap.get? b = some u → h'.get? b = some u) : Inv X pins σ H { s with heap := h', toks := t' } := I.un (Un.kept k) (I.hok.kept k)
theorem Inv.laid {a : Addr} {o : HO} {t' : Nat} (I : Inv X pins σ H s) (k : ∀ b u, s.heap.get? b = some u → h'.get? b = some u) (hp : s.heap.objs.size ≤ a) (new : ObjOk X.prog X.w (upd H a o) h' a o) :
    Inv X pins σ (upd H a o) { s with heap := h', toks := t' } := I.un (Un.laid k hp (I.hok.fresh hp)) (I.hok.laid k hp new)
theorem Inv.write {x e : Addr} {o : HO} {t' : Nat} (I : Inv X pins σ H s) (mu : Mut (H x)) (he : e = x ∨ H e = some (.own x)) (k : ∀ b u, b ≠ e → s.heap.get? b = some u → h'.get? b = some u) (heo : ∃ u, h'.get? e = some u)
    (new : ObjOk X.prog X.w (upd H x o) h' x o) : Inv X pins σ (upd H x o) { s with heap := h', toks := t' } := I.un (Un.write mu he k heo) (I.hok.write mu he k heo new)
theorem Inv.weak {σ' : List (Option V)} (I : Inv X pins σ H s) (hl : σ'.length = σ.length) (w : ∀ (i : Nat) v, σ'[i]? = some (some v) → σ[i]? = some (some v)) : Inv X pins σ' H s :=
  ⟨I.ok, I.os, I.bare, I.base, let ⟨m, hn, hl'⟩ := I.loc; ⟨m, hn, fun i x v e1 e2 e3 => hl' i x v e1 (w i v e2) e3⟩, I.cell, I.free, I.freeC, I.pin, I.hok, hl.trans I.len⟩
theorem Inv.pins_of {pins' : List (Addr × Obj)} (I : Inv X pins σ H s) (h : ∀ p ∈ pins', s.heap.get? p.1 = some p.2 ∧ H p.1 = none ∧ p.1 ≠ X.env.locals ∧ p.1 ∉ X.fs ∧ ∀ v, p.2.data ≠ .cell v) : Inv X pins' σ H s :=
  ⟨I.ok, I.os, I.bare, I.base, I.loc, I.cell, I.free, I.freeC, fun p hp => (List.mem_append.mp hp).elim (fun z => I.pin p (List.mem_append_left _ z)) (h p), I.hok, I.len⟩
theorem nodup_ix {N : List Str} (hN : N.Nodup) {i j : Nat} {x : Str} (a : N[i]? = some x) (b : N[j]? = some x) : i = j := by
  obtain ⟨h1, e1⟩ := List.getElem?_eq_some_iff.mp a
  obtain ⟨h2, e2⟩ := List.getElem?_eq_some_iff.mp b
  exact (List.getElem_inj hN).mp (e1.trans e2.symm)
theorem store_ok2 {M : Model} {A : Around} {E : Value → Shared → Prop} {i : Nat} {x : Str} {v : V} {u : Value} {Q : Unit → Shared → Prop} (I : Inv X pins σ H s) (hN : X.N.Nodup) (hi : X.N[i]? = some x) (hx : Loc X.env.scope x) (r : RelV v u)
    (h : ∀ s', Inv X pins (σ.set i (some v)) H s' → (∃ a, Heap.SameBut a s.heap s'.heap ∧ (a = X.env.locals ∨ X.env.cells.lookup x = some a)) → Q () s') (hf : X.fn x = true ∨ X.env.scope.names.lookup x = some .local := by first | exact .inl rfl | exact .inr rfl | assumption) : wpAny M A (storeName X.env x u) Q E s := by
  obtain ⟨m, hn, hl⟩ := id I.loc
  have hcls : (X.env.scope.kind == .class || (X.env.scope.kind == .module && X.env.locals != X.env.globals)) = false := by rw [I.ok.kind]; rfl
  have hiσ : i < σ.length := by rw [I.len]; exact (List.getElem?_eq_some_iff.mp hi).1
  have cne := I.cne
  have tracked : ∀ {a : Addr} {h' : Heap}, (∃ o, s.heap.get? a = some o ∧ H a = none) → Heap.SameBut a s.heap h' → HOk X.prog X.w H h' := fun {a h'} ha hs b ob e => by
    obtain ⟨_, _, hfree⟩ := ha
    refine (I.hok b ob e).stay (fun c w' hc q => (hs.2 c ?_).trans q) (fun _ q => q) fun _ _ q => q
    rintro rfl
    rcases hc with rfl | hc
    · rw [hfree] at e; cases e
    · rw [hfree] at hc; cases hc
  rcases hx with hk | hk
  · refine wpAny_storeName_local hk hn (fun h' hn' hs => ?_) hcls
    obtain ⟨oL, _, _, hoL, _⟩ := id hn
    refine h _ ⟨I.ok, I.os, I.bare, ⟨fun b o e n hb hx => ?_, fun b o e n hb hx => ?_, I.base.free, fun b o e hx => ?_, I.base.tups, I.base.frzs, I.base.tbls⟩, ⟨_, hn', fun j y v' e1 e2 e3 => ?_⟩, fun y c e => ?_, I.free, I.freeC, fun p hp => ?_, tracked ⟨oL, hoL, I.free⟩ hs, by simpa using I.len⟩ ⟨_, hs, .inl rfl⟩
    · exact (hs.2 b (Nat.ne_of_lt (Nat.lt_of_lt_of_le (Heap.lt_size e) I.ok.above))).trans (I.base.keep b o e n hb hx)
    · obtain ⟨sl, e1⟩ := I.base.slot b o e n hb hx
      exact ⟨sl, (hs.2 b (Nat.ne_of_lt (Nat.lt_of_lt_of_le (Heap.lt_size e) I.ok.above))).trans e1⟩
    · obtain ⟨o', e1⟩ := I.base.there b o e hx
      exact ⟨o', (hs.2 b (Nat.ne_of_lt (Nat.lt_of_lt_of_le (Heap.lt_size e) I.ok.above))).trans e1⟩
    · by_cases hj : j = i
      · subst hj
        rw [hi] at e1; cases e1
        rw [List.getElem?_set_self hiσ] at e2
        cases e2
        exact ⟨u, r, .inl ⟨hk, by simp⟩⟩
      · rw [List.getElem?_set_ne (Ne.symm hj)] at e2
        obtain ⟨u', r', q⟩ := hl j y v' e1 e2 e3
        refine ⟨u', r', ?_⟩
        rcases q with ⟨k, e⟩ | ⟨k, c, e, z⟩
        · refine .inl ⟨k, ?_⟩
          have : y ≠ x := fun e => hj (nodup_ix hN e1 (e ▸ hi))
          simp [this, e]
        · exact .inr ⟨k, c, e, z.sameBut hs (cne y c e)⟩
    · obtain ⟨w', z⟩ := I.cell y c e
      exact ⟨w', z.sameBut hs (cne y c e)⟩
    · obtain ⟨e, n, ne, nf, d⟩ := I.pin p hp
      exact ⟨(hs.2 p.1 ne).trans e, n, ne, nf, d⟩
  · have hfn : X.fn x = true := by
      rcases hf with z | z
      · exact z
      · rw [z] at hk; cases hk
    obtain ⟨c, hc⟩ := I.ok.has x (.inl hk)
    obtain ⟨w', z⟩ := I.cell x c hc
    refine wpAny_storeName_cell I.ok.kind hk hc z (fun h' hc' hs => ?_)
    obtain ⟨oc, hoc, hocd⟩ := id z
    refine h { s with heap := h' } ⟨I.ok, I.os, I.bare, ⟨fun b o e n hb hx => ?_, fun b o e n hb hx => ?_, I.base.free, fun b o e hx => ?_, I.base.tups, I.base.frzs, I.base.tbls⟩, ⟨m, hn.sameBut hs (Ne.symm (cne x c hc)), fun j y v' e1 e2 e3 => ?_⟩, fun y c' e => ?_, I.free, I.freeC, fun p hp => ?_, tracked ⟨oc, hoc, I.freeC x c hc⟩ hs, by simpa using I.len⟩ ⟨c, hs, .inr hc⟩
    · exact (hs.2 b (Nat.ne_of_lt (Nat.lt_of_lt_of_le (Heap.lt_size e) (I.ok.cab x c hfn hc)))).trans (I.base.keep b o e n hb hx)
    · obtain ⟨sl, e1⟩ := I.base.slot b o e n hb hx
      exact ⟨sl, (hs.2 b (Nat.ne_of_lt (Nat.lt_of_lt_of_le (Heap.lt_size e) (I.ok.cab x c hfn hc)))).trans e1⟩
    · obtain ⟨o', e1⟩ := I.base.there b o e hx
      exact ⟨o', (hs.2 b (Nat.ne_of_lt (Nat.lt_of_lt_of_le (Heap.lt_size e) (I.ok.cab x c hfn hc)))).trans e1⟩
    · by_cases hj : j = i
      · subst hj
        rw [hi] at e1; cases e1
        rw [List.getElem?_set_self hiσ] at e2
        cases e2
        exact ⟨u, r, .inr ⟨.inl hk, c, hc, hc'⟩⟩
      · rw [List.getElem?_set_ne (Ne.symm hj)] at e2
        obtain ⟨u', r', q⟩ := hl j y v' e1 e2 e3
        refine ⟨u', r', ?_⟩
        rcases q with q | ⟨k, c', e, z'⟩
        · exact .inl q
        · refine .inr ⟨k, c', e, z'.sameBut hs ?_⟩
          rintro rfl
          exact hj (nodup_ix hN e1 (I.ok.inj _ _ _ e hc ▸ hi))
    · by_cases hcc : c' = c
      · subst hcc; exact ⟨_, hc'⟩
      · obtain ⟨w2, z2⟩ := I.cell y c' e
        exact ⟨w2, z2.sameBut hs hcc⟩
    · obtain ⟨e, n, ne, nf, d⟩ := I.pin p hp
      refine ⟨(hs.2 p.1 ?_).trans e, n, ne, nf, d⟩
      intro q
      rw [q, hoc] at e
      have q' : oc = p.2 := Option.some.inj e
      exact d w' (by rw [← q']; exact hocd)
theorem store_ok {M : Model} {A : Around} {E : Value → Shared → Prop} {i : Nat} {x : Str} {v : V} {u : Value} {Q : Unit → Shared → Prop} (I : Inv X pins σ H s) (hN : X.N.Nodup) (hi : X.N[i]? = some x) (hx : Loc X.env.scope x) (r : RelV v u)
    (h : ∀ s', Inv X pins (σ.set i (some v)) H s' → Q () s') (hf : X.fn x = true ∨ X.env.scope.names.lookup x = some .local := by first | exact .inl rfl | exact .inr rfl | assumption) : wpAny M A (storeName X.env x u) Q E s :=
  store_ok2 I hN hi hx r (fun s' I' _ => h s' I') hf
theorem Inv.call' {s' : Shared} {ch : List Addr} (I : Inv X pins σ H s) (ho : s'.os = s.os) (u : Un (frs X.stack) ch H H' s.heap s'.heap) (hok : HOk X.prog X.w H' s'.heap) (hg : AllBare s'.gens)
    (hch : ∀ b ∈ ch, (b ∈ X.ex ∨ X.s₀.heap.objs.size ≤ b) ∧ b ≠ X.env.locals ∧ (∀ x c, X.env.cells.lookup x = some c → c ≠ b) ∧ ∀ p ∈ X.pn ++ pins, p.1 ≠ b) : Inv X pins σ H' s' := by
  obtain ⟨h', g', d', t', o'⟩ := s'
  have e : o' = s.os := ho
  subst e
  exact I.call (g' := g') (t' := t') (d' := d') u hok hg hch
end
abbrev XK := Value → Option Addr → Hp → Prop
abbrev St := List (Option V)
abbrev VK := V → Hp → Prop
abbrev TE := St → Hp → VK → Prop
abbrev TT := St → Hp → (Bool → Hp → Prop) → Prop
abbrev TA := St → Hp → (List V → Hp → Prop) → Prop
structure Ends where
  nx : St → Hp → Prop
  rt : VK
  bk : St → Hp → Prop := fun _ _ => False
  ct : St → Hp → Prop := fun _ _ => False
abbrev TS := Ends → St → Hp → Prop
def EP (X : Cx) (pins : List (Addr × Obj)) (σ : St) (Q : VK) (u : Value) (s' : Shared) : Prop := ∃ v H', Inv X pins σ H' s' ∧ RelV v u ∧ Q v H'
def TP (X : Cx) (pins : List (Addr × Obj)) (σ : St) (Q : Bool → Hp → Prop) (b : Bool) (s' : Shared) : Prop := ∃ H', Inv X pins σ H' s' ∧ Q b H'
def AP (X : Cx) (pins : List (Addr × Obj)) (σ : St) (Q : List V → Hp → Prop) (us : List Value) (s' : Shared) : Prop := ∃ vs H', Inv X pins σ H' s' ∧ Vals vs us ∧ Q vs H'
def SP (X : Cx) (pins : List (Addr × Obj)) (D : Ends) (f : Flow) (s' : Shared) : Prop :=
  match f with
  | .next => ∃ σ' H', Inv X pins σ' H' s' ∧ D.nx σ' H'
  | .brk => ∃ σ' H', Inv X pins σ' H' s' ∧ D.bk σ' H'
  | .cont => ∃ σ' H', Inv X pins σ' H' s' ∧ D.ct σ' H'
  | .ret u => ∃ v σ' H', Inv X pins σ' H' s' ∧ RelV v u ∧ D.rt v H'
def PE (X : Cx) (e : Expr) (t : TE) : Prop :=
  ∀ (pins : List (Addr × Obj)) (s : Shared) (σ : St) (H : Hp) (Q : VK), Inv X pins σ H s → t σ H Q → wpAny (model X.prog X.w) X.A (eval e X.env) (EP X pins σ Q) X.xe s
def PT (X : Cx) (e : Expr) (t : TT) : Prop :=
  ∀ (pins : List (Addr × Obj)) (s : Shared) (σ : St) (H : Hp) (Q : Bool → Hp → Prop), Inv X pins σ H s → t σ H Q → wpAny (model X.prog X.w) X.A (isTrue e X.env (eval e X.env)) (TP X pins σ Q) X.xe s
def PW (X : Cx) (e : Expr) (t : TT) : Prop :=
  ∀ (whole : Sem Value) (pins : List (Addr × Obj)) (s : Shared) (σ : St) (H : Hp) (Q : Bool → Hp → Prop), Inv X pins σ H s → t σ H Q → wpAny (model X.prog X.w) X.A (isTrue e X.env whole) (TP X pins σ Q) X.xe s
theorem PW.pt {X : Cx} {e : Expr} {t : TT} (h : PW X e t) : PT X e t := h _
def PA (X : Cx) (es : List Expr) (t : TA) : Prop :=
  ∀ (pos : Pos) (pins : List (Addr × Obj)) (s : Shared) (σ : St) (H : Hp) (Q : List V → Hp → Prop), Inv X pins σ H s → t σ H Q → wpAny (model X.prog X.w) X.A (spliced (backTo pos (starEach es X.env))) (AP X pins σ Q) X.xe s
def PS (X : Cx) (st : Stmt) (t : TS) : Prop :=
  ∀ (pins : List (Addr × Obj)) (s : Shared) (σ : St) (H : Hp) (D : Ends), Inv X pins σ H s → t D σ H → wpAny (model X.prog X.w) X.A (exec st X.env) (SP X pins D) X.xe s
def PSs (X : Cx) (st : List Stmt) (t : TS) : Prop :=
  ∀ (pins : List (Addr × Obj)) (s : Shared) (σ : St) (H : Hp) (D : Ends), Inv X pins σ H s → t D σ H → wpAny (model X.prog X.w) X.A (execs st X.env) (SP X pins D) X.xe s
theorem thn {α : Type} {t : Sem α} {Q Q' : α → Shared → Prop} {M : Model} {A : Around} {E : Value → Shared → Prop} {s : Shared} (h : wpAny M A t Q E s) (hQ : ∀ a s, Q a s → Q' a s) : wpAny M A t Q' E s := wpAny_mono h hQ fun _ _ x => x
end L2
namespace L2
open PySem PySem.Spec PyProof.Rows
section
variable {X : Cx}
def tVar (i : Nat) : TE := fun σ H Q => ∃ v, σ[i]? = some (some v) ∧ Q v H
def tC (v : V) : TE := fun _ H Q => Q v H
theorem pe_var {i : Nat} {x : Str} {pos : Pos} (hN : X.N[i]? = some x) (hv : Vis X.env.scope x) (hd : (x == ("__debug__" : Str)) = false := by decide) (hcd : (x == ("__classdict__" : Str)) = false := by decide) : PE X (.Name x pos) (tVar i) := by
  intro pins s σ H Q I h
  obtain ⟨v, e, h⟩ := h
  obtain ⟨m, hn, hl⟩ := I.loc
  obtain ⟨u, r, l⟩ := hl i x v hN e hv
  have fin : EP X pins σ Q u s := ⟨v, H, I, r, h⟩
  rcases l with ⟨hk, hm⟩ | ⟨hk, c, hc, hcell⟩
  · exact wpAny_Name (wpAny_loadName_local I.ok.kind hk hn hm fin) hd
  · rcases hk with hk | hk
    · exact wpAny_Name (wpAny_loadName_cell I.ok.kind hk hc hcell fin) hd
    · exact wpAny_Name (wpAny_loadName_free I.ok.kind hk hc hcell fin hcd) hd
theorem pe_int {i j pos} : PE X (.Constant (.int i) j pos) (tC (.int i)) := fun _ _ _ H _ I h => wpAny_Constant_int ⟨.int i, H, I.tok _, ⟨_, rfl⟩, h⟩
theorem pe_bl {b j pos} : PE X (.Constant (.bool b) j pos) (tC (.bl b)) := fun _ _ _ H _ I h => Constant_bool ⟨.bl b, H, I, rfl, h⟩
theorem pe_str {x j pos} : PE X (.Constant (.str x) j pos) (tC (.str x)) := fun _ _ _ H _ I h => Calls.Constant_str ⟨.str x, H, I.tok _, ⟨_, rfl⟩, h⟩
def Gl (X : Cx) (x : Str) : Prop := X.env.kindOf x = some .globalImplicit
theorem ld_glob {E : Value → Shared → Prop} {pins : List (Addr × Obj)} {s : Shared} {σ : St} {H : Hp} {x : Str} {u : Value} {pos : Pos} {Q : Value → Shared → Prop} (I : Inv X pins σ H s) (hg : Gl X x) (hm : X.mg x = some u) (h : Q u s)
    (hd : (x == ("__debug__" : Str)) = false := by decide) : wpAny (model X.prog X.w) X.A (eval (.Name x pos) X.env) Q E s :=
  Calls.Name_function_global I.ok.kind hg (Calls.loadGlobal_global (by rw [I.ok.glob]; exact I.mod.glob.keeps I.bk) hm h) hd
theorem ld_blt {E : Value → Shared → Prop} {pins : List (Addr × Obj)} {s : Shared} {σ : St} {H : Hp} {x : Str} {u : Value} {pos : Pos} {Q : Value → Shared → Prop} (I : Inv X pins σ H s) (hg : Gl X x) (hm : X.mg x = none) (hv : bootBuiltins x = some u) (h : Q u s)
    (hn : x ≠ "__name__" := by decide) (hd : (x == ("__debug__" : Str)) = false := by decide) : wpAny (model X.prog X.w) X.A (eval (.Name x pos) X.env) Q E s := by
  obtain ⟨mb, h1, h2⟩ := I.mod.blt
  exact Calls.Name_function_global I.ok.kind hg (Calls.loadGlobal_builtin (by rw [I.ok.glob]; exact I.mod.glob.keeps I.bk) hm (by rw [I.ok.blt]; exact h1.keeps I.bk) ((h2 x hn).trans hv) h) hd
theorem pe_bltn {x : Str} {v : V} {u : Value} {pos : Pos} (hg : Gl X x) (hm : X.mg x = none) (hv : bootBuiltins x = some u) (r : RelV v u) (hn : x ≠ "__name__" := by decide) (hd : (x == ("__debug__" : Str)) = false := by decide) : PE X (.Name x pos) (tC v) :=
  fun _ _ _ H _ I h => ld_blt I hg hm hv ⟨v, H, I, r, h⟩ hn hd
variable {a b : Expr} {ta tb : TE} {pos : Pos}
def PC (X : Cx) (op : CmpOp) (a b : Expr) (t : TE) : Prop :=
  ∀ (pins : List (Addr × Obj)) (s : Shared) (σ : St) (H : Hp) (Q : VK), Inv X pins σ H s → t σ H Q →
    wpAny (model X.prog X.w) X.A (eval a X.env) (fun v s₁ => wpAny (model X.prog X.w) X.A (eval b X.env) (fun u s₂ => wpAny (model X.prog X.w) X.A (compareOp op v u) (EP X pins σ Q) X.xe s₂) X.xe s₁) X.xe s
theorem nobehind (b : Expr) {op : CmpOp} (h : op ≠ .In) (h2 : op ≠ .NotIn) : behindInMarks op b = false := by
  have e1 : (op == CmpOp.In) = false := by cases op <;> first | rfl | exact absurd rfl h
  have e2 : (op == CmpOp.NotIn) = false := by cases op <;> first | rfl | exact absurd rfl h2
  cases b <;> simp [behindInMarks, e1, e2]
def tB (t : TE) : TT := fun σ H Q => t σ H fun x H1 => ∃ c, x = .bl c ∧ Q c H1
theorem pt_cmp {op : CmpOp} {t : TE} (h : PC X op a b t) (h1 : behindInMarks op b = false := by first | exact nobehind _ (by decide) (by decide) | rfl) : PT X (.Compare a [op] [b] pos) (tB t) := by
  intro pins s σ H Q I hw
  refine wpAny_isTrue_Compare1 (thn (h pins s σ H _ I hw) fun v s1 h1 => thn h1 fun u s2 h2 => thn h2 fun c s3 ⟨x, H1, I1, r1, q1⟩ => ?_) h1
  obtain ⟨d, rfl, q⟩ := q1
  cases r1
  exact wpAny_truthy_bool ⟨H1, I1, q⟩
theorem pt_val {e : Expr} {t : TE} (h : PE X e t) (he : ∀ whole, isTrue e X.env whole = (do let v ← whole; standAt e.pos; holding [v] (truthy v)) := by intro _; rfl) : PT X e (tB t) := by
  intro pins s σ H Q I hw
  refine isTrue_plain (thn (h pins s σ H _ I hw) fun v s1 ⟨x, H1, I1, r1, q1⟩ => ?_) (he _)
  obtain ⟨d, rfl, q⟩ := q1
  cases r1
  exact wpAny_truthy_bool ⟨H1, I1, q⟩
variable {tA tB' : TT} {rest : List Expr}
def tAnd (t u : TT) : TT := fun σ H Q => t σ H fun c H1 => if c = true then u σ H1 Q else Q false H1
def tOr (t u : TT) : TT := fun σ H Q => t σ H fun c H1 => if c = true then Q true H1 else u σ H1 Q
def tNot (t : TT) : TT := fun σ H Q => t σ H fun c H1 => Q (!c) H1
theorem pw_and1 (ha : PT X a tA) : PW X (.BoolOp .And [a] pos) tA := by
  intro wh pins s σ H Q I h
  refine isTrue_and (thn (ha pins s σ H Q I h) fun c s1 e => ?_)
  cases c with
  | true => exact isTrue_and_nil e
  | false => exact e
theorem pw_or1 (ha : PT X a tA) : PW X (.BoolOp .Or [a] pos) tA := by
  intro wh pins s σ H Q I h
  refine isTrue_or (thn (ha pins s σ H Q I h) fun c s1 e => ?_)
  cases c with
  | false => exact isTrue_or_nil e
  | true => exact e
theorem pw_and (ha : PT X a tA) (hb : PW X (.BoolOp .And (b :: rest) pos) tB') : PW X (.BoolOp .And (a :: b :: rest) pos) (tAnd tA tB') := by
  intro wh pins s σ H Q I h
  refine isTrue_and (thn (ha pins s σ H _ I h) fun c s1 ⟨H1, I1, q1⟩ => ?_)
  cases c with
  | true => exact hb wh pins s1 σ H1 Q I1 q1
  | false => exact ⟨H1, I1, q1⟩
theorem pw_or (ha : PT X a tA) (hb : PW X (.BoolOp .Or (b :: rest) pos) tB') : PW X (.BoolOp .Or (a :: b :: rest) pos) (tOr tA tB') := by
  intro wh pins s σ H Q I h
  refine isTrue_or (thn (ha pins s σ H _ I h) fun c s1 ⟨H1, I1, q1⟩ => ?_)
  cases c with
  | true => exact ⟨H1, I1, q1⟩
  | false => exact hb wh pins s1 σ H1 Q I1 q1
theorem pt_not (ha : PT X a tA) : PT X (.UnaryOp .Not a pos) (tNot tA) := by
  intro pins s σ H Q I h
  exact isTrue_not (ha pins s σ H (fun c H1 => Q (!c) H1) I h)
def tAndV (ta tb : TE) : TE := fun σ H Q => ta σ H fun x H1 => ∃ c, x = .bl c ∧ if c = true then tb σ H1 Q else Q (.bl false) H1
def tOrV (ta tb : TE) : TE := fun σ H Q => ta σ H fun x H1 => ∃ c, x = .bl c ∧ if c = true then Q (.bl true) H1 else tb σ H1 Q
def tNotV (ta : TE) : TE := fun σ H Q => ta σ H fun x H1 => ∃ c, x = .bl c ∧ Q (.bl (!c)) H1
theorem pe_one {op} {t : TE} (h : PE X a t) : PE X (.BoolOp op [a] pos) t := fun pins s σ H Q I hw => BoolOp_one (h pins s σ H Q I hw)
theorem pe_and (ha : PE X a ta) (hb : PE X (.BoolOp .And (b :: rest) pos) tb) : PE X (.BoolOp .And (a :: b :: rest) pos) (tAndV ta tb) := by
  intro pins s σ H Q I h
  refine BoolOp_and (thn (ha pins s σ H _ I h) fun v s1 ⟨x, H1, I1, r1, q1⟩ => ?_)
  obtain ⟨c, rfl, q1⟩ := q1
  cases r1
  refine wpAny_truthy_bool ?_
  cases c with
  | true => exact hb pins s1 σ H1 Q I1 q1
  | false => exact ⟨.bl false, H1, I1, rfl, q1⟩
theorem pe_or (ha : PE X a ta) (hb : PE X (.BoolOp .Or (b :: rest) pos) tb) : PE X (.BoolOp .Or (a :: b :: rest) pos) (tOrV ta tb) := by
  intro pins s σ H Q I h
  refine BoolOp_or (thn (ha pins s σ H _ I h) fun v s1 ⟨x, H1, I1, r1, q1⟩ => ?_)
  obtain ⟨c, rfl, q1⟩ := q1
  cases r1
  refine wpAny_truthy_bool ?_
  cases c with
  | false => exact hb pins s1 σ H1 Q I1 q1
  | true => exact ⟨.bl true, H1, I1, rfl, q1⟩
theorem pe_not (ha : PE X a ta) : PE X (.UnaryOp .Not a pos) (tNotV ta) := by
  intro pins s σ H Q I h
  refine UnaryOp_ (thn (ha pins s σ H _ I h) fun v s1 ⟨x, H1, I1, r1, q1⟩ => ?_)
  obtain ⟨c, rfl, q1⟩ := q1
  cases r1
  exact not_of (wpAny_truthy_bool ⟨.bl (!c), H1, I1, rfl, q1⟩)
end
end L2
namespace L2
open PySem PySem.Spec PyProof.Rows
def SqL (K : PySem.W.Frag) (H : Hp) (a : Addr) (xs : List V) : Prop :=
  Rd H a (.lst xs) ∨
    ∃ (o : Obj) (its : Array Value) (n : Nat), K.lookup a = some o ∧ o.cls = .type "list" ∧ o.dict = none ∧ o.data = .seq its n ∧ its.size ≤ sizeLine ∧ Vals xs its.toList
def SqT (K : PySem.W.Frag) (H : Hp) (a : Addr) (xs : List V) : Prop :=
  Rd H a (.tup xs) ∨
    ∃ (o : Obj) (its : Array Value) (n : Nat), K.lookup a = some o ∧ o.cls = .type "tuple" ∧ o.data = .seq its n ∧ its.size ≤ sizeLine ∧ Vals xs its.toList
def absV : Value → Option V
  | .none => some .non
  | .bool b => some (.bl b)
  | .int i _ => some (.int i)
  | .str x _ => some (.str x)
  | .bytes b _ => some (.byt b)
  | .float b _ => some (.flt b)
  | .ref a => some (.ref a)
  | .type n => some (.ty n)
  | _ => none
theorem RelV.abs {x : V} {u : Value} (r : RelV x u) : absV u = some x := by
  cases x with
  | non => cases r; rfl
  | bl _ => cases r; rfl
  | int _ => obtain ⟨t, rfl⟩ := r; rfl
  | str _ => obtain ⟨t, rfl⟩ := r; rfl
  | byt _ => obtain ⟨t, rfl⟩ := r; rfl
  | flt _ => obtain ⟨t, rfl⟩ := r; rfl
  | ref _ => cases r; rfl
  | ty _ => cases r; rfl
theorem RelV.inj {x y : V} {u : Value} (r : RelV x u) (q : RelV y u) : x = y := Option.some.inj (r.abs.symm.trans q.abs)
theorem Vals.inj : ∀ {xs ys : List V} {us : List Value}, Vals xs us → Vals ys us → xs = ys
  | _, _, _, .nil, .nil => rfl
  | _, _, _, .cons r t, .cons r' t' => by rw [r.inj r', Vals.inj t t']
section
variable {X : Cx} {pins : List (Addr × Obj)} {σ : St} {H : Hp} {s : Shared} {a : Addr} {xs ys : List V}
theorem SqL.of {K : PySem.W.Frag} (h : H a = some (.lst xs)) : SqL K H a xs := .inl (.inl h)
theorem SqT.of {K : PySem.W.Frag} (h : H a = some (.tup xs)) : SqT K H a xs := .inl (.inl h)
theorem Inv.list (I : Inv X pins σ H s) (h : SqL X.K H a xs) : ∃ its : List Value, Vals xs its ∧ PlainL s.heap a its.toArray ∧ xs.length ≤ sizeLine := by
  rcases h with h | ⟨o, its, n, hk, hc, hd, hs, hz, r⟩
  · obtain ⟨z, its, n, r, e⟩ := h.ok I.hok
    exact ⟨its, r, ⟨_, n, e, rfl, rfl, rfl⟩, z⟩
  · refine ⟨its.toList, r, ⟨o, n, I.kIn a o hk, hc, hd, by simpa using hs⟩, ?_⟩
    have e := r.length
    simp only [Array.length_toList] at e
    omega
theorem Inv.tuple (I : Inv X pins σ H s) (h : SqT X.K H a xs) : ∃ its : List Value, Vals xs its ∧ IsTup s.heap a its.toArray ∧ xs.length ≤ sizeLine := by
  rcases h with h | ⟨o, its, n, hk, hc, hs, hz, r⟩
  · obtain ⟨z, its, r, p⟩ := h.ok I.hok
    exact ⟨its, r, p, z⟩
  · refine ⟨its.toList, r, ⟨o, I.kIn a o hk, hc, n, by simpa using hs⟩, ?_⟩
    have e := r.length
    simp only [Array.length_toList] at e
    omega
theorem Inv.list_inj (I : Inv X pins σ H s) (h : SqL X.K H a xs) (h' : SqL X.K H a ys) : xs = ys := by
  obtain ⟨its, r, ⟨o, n, e, _, _, d⟩, _⟩ := I.list h
  obtain ⟨its', r', ⟨o', n', e', _, _, d'⟩, _⟩ := I.list h'
  rw [e] at e'; cases e'
  rw [d] at d'
  injection d' with d1 _
  have : its = its' := by simpa using congrArg Array.toList d1
  subst this
  exact r.inj r'
theorem Inv.tuple_inj (I : Inv X pins σ H s) (h : SqT X.K H a xs) (h' : SqT X.K H a ys) : xs = ys := by
  obtain ⟨its, r, ⟨o, e, _, n, d⟩, _⟩ := I.tuple h
  obtain ⟨its', r', ⟨o', e', _, n', d'⟩, _⟩ := I.tuple h'
  rw [e] at e'; cases e'
  rw [d] at d'
  injection d' with d1 _
  have : its = its' := by simpa using congrArg Array.toList d1
  subst this
  exact r.inj r'
end
abbrev Cx.wish (X : Cx) (E : Value → Shared → Prop) : Cx := { X with xe := E }
abbrev Cx.nox (X : Cx) : Cx := X.wish fun _ _ => False
theorem Cx.Ok.wish {X : Cx} (ok : X.Ok) (E : Value → Shared → Prop) : (X.wish E).Ok :=
  ⟨ok.mod, ok.kind, ok.glob, ok.blt, ok.above, ok.inj, ok.has, ok.cab, ok.hd, ok.frames, ok.stk, ok.exf, ok.bs, ok.bsz, ok.noex, ok.exfs, ok.funs, ok.frf⟩
theorem Cx.Ok.unwish {X : Cx} {E : Value → Shared → Prop} (ok : (X.wish E).Ok) : X.Ok :=
  ⟨ok.mod, ok.kind, ok.glob, ok.blt, ok.above, ok.inj, ok.has, ok.cab, ok.hd, ok.frames, ok.stk, ok.exf, ok.bs, ok.bsz, ok.noex, ok.exfs, ok.funs, ok.frf⟩
section
variable {X : Cx} {pins : List (Addr × Obj)} {σ : St} {H : Hp} {s : Shared} {E : Value → Shared → Prop}
theorem Inv.wish (I : Inv X pins σ H s) (E : Value → Shared → Prop) : Inv (X.wish E) pins σ H s := ⟨I.ok.wish E, I.os, I.bare, I.base, I.loc, I.cell, I.free, I.freeC, I.pin, I.hok, I.len⟩
theorem Inv.unwish (I : Inv (X.wish E) pins σ H s) : Inv X pins σ H s := ⟨I.ok.unwish, I.os, I.bare, I.base, I.loc, I.cell, I.free, I.freeC, I.pin, I.hok, I.len⟩
theorem SP.unwish {D : Ends} {f : Flow} {s' : Shared} (h : SP (X.wish E) pins D f s') : SP X pins D f s' := by
  cases f with
  | next => obtain ⟨σ', H', I, q⟩ := h; exact ⟨σ', H', I.unwish, q⟩
  | brk => obtain ⟨σ', H', I, q⟩ := h; exact ⟨σ', H', I.unwish, q⟩
  | cont => obtain ⟨σ', H', I, q⟩ := h; exact ⟨σ', H', I.unwish, q⟩
  | ret u => obtain ⟨v, σ', H', I, r, q⟩ := h; exact ⟨v, σ', H', I.unwish, r, q⟩
theorem PE.nox {e : Expr} {t : TE} (h : PE X.nox e t) : PE X e t := fun pins s σ H Q I hw =>
  wpAny_mono (h pins s σ H Q (I.wish _) hw) (fun _ _ ⟨v, H', I', r, q⟩ => ⟨v, H', I'.unwish, r, q⟩) fun _ _ z => False.elim z
theorem PT.nox {e : Expr} {t : TT} (h : PT X.nox e t) : PT X e t := fun pins s σ H Q I hw =>
  wpAny_mono (h pins s σ H Q (I.wish _) hw) (fun _ _ ⟨H', I', q⟩ => ⟨H', I'.unwish, q⟩) fun _ _ z => False.elim z
theorem PSs.nox {st : List Stmt} {t : TS} (h : PSs X.nox st t) : PSs X st t := fun pins s σ H D I hw =>
  wpAny_mono (h pins s σ H D (I.wish _) hw) (fun _ _ q => q.unwish) fun _ _ z => False.elim z
end
section
variable {X : Cx} {st : Stmt} {rest : List Stmt} {t u : TS} {e : Expr} {te : TE} {pos : Pos}
def tNext : TS := fun D σ H => D.nx σ H
def tSeq (t u : TS) : TS := fun D σ H => t { D with nx := u D } σ H
theorem pss_nil : PSs X [] tNext := fun _ _ σ H _ I h => wpAny_execs_nil ⟨σ, H, I, h⟩
theorem pss_cons (h1 : PS X st t) (h2 : PSs X rest u) : PSs X (st :: rest) (tSeq t u) := by
  intro pins s σ H D I h
  refine wpAny_execs_cons (thn (h1 pins s σ H { D with nx := u D } I h) fun f s1 q => ?_)
  cases f with
  | next =>
    obtain ⟨σ', H', I', q⟩ := q
    exact h2 pins s1 σ' H' D I' q
  | ret v => exact q
  | brk => exact q
  | cont => exact q
theorem pss_one (h1 : PS X st t) : PSs X [st] t := by
  intro pins s σ H D I h
  refine wpAny_execs_cons (thn (h1 pins s σ H D I h) fun f s1 q => ?_)
  cases f with
  | next => exact wpAny_execs_nil q
  | ret v => exact q
  | brk => exact q
  | cont => exact q
theorem Inv.quiet {pins : List (Addr × Obj)} {σ : St} {H : Hp} {s : Shared} (I : Inv X pins σ H s) : interactive X.env = false := by simp [interactive, I.ok.kind]
def tDrop (te : TE) : TS := fun D σ H => te σ H fun _ H1 => D.nx σ H1
theorem ps_expr (he : PE X e te) (hs : swapsWith e none pos.line X.env = pure false := by rfl) : PS X (.Expr e pos) (tDrop te) := by
  intro pins s σ H D I h
  exact wpAny_Expr_any (thn (he pins s σ H _ I h) fun v s1 ⟨x, H1, I1, r1, q1⟩ => ⟨σ, H1, I1, q1⟩) I.quiet hs
def tRet (te : TE) : TS := fun D σ H => te σ H D.rt
theorem ps_ret (he : PE X e te) : PS X (.Return (some e) pos) (tRet te) := by
  intro pins s σ H D I h
  exact wpAny_Return_some (thn (he pins s σ H _ I h) fun v s1 ⟨x, H1, I1, r1, q1⟩ => ⟨x, σ, H1, I1, r1, q1⟩)
def tIfS (c : TT) (t u : TS) : TS := fun D σ H => c σ H fun b H1 => if b = true then t D σ H1 else u D σ H1
theorem ps_if {c : Expr} {a b : List Stmt} {tc : TT} (hc : PT X c tc) (ha : PSs X a t) (hb : PSs X b u) : PS X (.If c a b pos) (tIfS tc t u) := by
  intro pins s σ H D I h
  refine wpAny_If (thn (hc pins s σ H _ I h) fun d s1 ⟨H1, I1, q1⟩ => ?_)
  cases d with
  | true => exact ha pins s1 σ H1 D I1 q1
  | false => exact hb pins s1 σ H1 D I1 q1
end
abbrev TG := V → St → Hp → (St → Hp → Prop) → Prop
abbrev TGs := List V → St → Hp → (St → Hp → Prop) → Prop
def PG (X : Cx) (target : Expr) (t : TG) : Prop :=
  ∀ (pins : List (Addr × Obj)) (s : Shared) (σ : St) (H : Hp) (v : V) (u : Value) (Q : St → Hp → Prop), Inv X pins σ H s → RelV v u → t v σ H Q →
    wpAny (model X.prog X.w) X.A (assign target X.env u) (fun _ s' => ∃ σ' H', Inv X pins σ' H' s' ∧ Q σ' H') X.xe s
def PGs (X : Cx) (ts : List Expr) (t : TGs) : Prop :=
  ∀ (pins : List (Addr × Obj)) (s : Shared) (σ : St) (H : Hp) (vs : List V) (us : List Value) (Q : St → Hp → Prop), Inv X pins σ H s → Vals vs us → t vs σ H Q →
    wpAny (model X.prog X.w) X.A (assignInOrder ((assignEach ts X.env).map (·.2)) us) (fun _ s' => ∃ σ' H', Inv X pins σ' H' s' ∧ Q σ' H') X.xe s
section
variable {X : Cx} {pos : Pos}
def gName (i : Nat) : TG := fun v σ H Q => Q (σ.set i (some v)) H
theorem pg_name {i : Nat} {x : Str} (hN : X.N.Nodup) (hi : X.N[i]? = some x) (hx : Loc X.env.scope x) (hf : X.fn x = true ∨ X.env.scope.names.lookup x = some .local := by first | exact .inl rfl | exact .inr rfl | assumption) : PG X (.Name x pos) (gName i) := by
  intro pins s σ H v u Q I r h
  exact wpAny_assign_Name (store_ok I hN hi hx r (fun s' I' => ⟨_, H, I', h⟩) hf)
def gNil : TGs := fun vs σ H Q => vs = [] ∧ Q σ H
def gCons (t : TG) (u : TGs) : TGs := fun vs σ H Q => ∃ v r, vs = v :: r ∧ t v σ H fun σ' H' => u r σ' H' Q
theorem pgs_nil : PGs X [] gNil := by
  intro pins s σ H vs us Q I r h
  obtain ⟨e, h⟩ := h
  subst e
  cases r
  exact assignInOrder_nil ⟨σ, H, I, h⟩
theorem pgs_cons {e : Expr} {es : List Expr} {t : TG} {u : TGs} (h1 : PG X e t) (h2 : PGs X es u)
    (hs : (assignEach (e :: es) X.env).map (·.2) = assign e X.env :: (assignEach es X.env).map (·.2) := by rfl) : PGs X (e :: es) (gCons t u) := by
  intro pins s σ H vs us Q I r h
  obtain ⟨v, vr, e1, h⟩ := h
  subst e1
  cases r with
  | cons r rr =>
    rw [hs]
    refine assignInOrder_cons (thn (h1 pins s σ H _ _ _ I r h) fun _ s1 ⟨σ1, H1, I1, q1⟩ => ?_)
    exact h2 pins s1 σ1 H1 _ _ Q I1 rr q1
def gTup (K : PySem.W.Frag) (n : Nat) (t : TGs) : TG := fun v σ H Q => ∃ a xs, v = .ref a ∧ SqT K H a xs ∧ xs.length = n ∧ t xs σ H Q
theorem pg_tup {es : List Expr} {k : Nat} {t : TGs} {n : Nat} (hc : X.calm = true) (h : PGs X es t)
    (hn : (assignEach es X.env).length = n := by rfl) (hst : (assignEach es X.env).findIdx? (·.1) = none := by rfl) : PG X (.Tuple es k pos) (gTup X.K n t) := by
  intro pins s σ H v u Q I r hw
  obtain ⟨a, xs, e1, hq, hl, hw⟩ := hw
  subst e1
  cases r
  obtain ⟨its, rv, ht, hz⟩ := I.tuple hq
  refine assign_Tuple_tuple (I.ok.hd hc) ht (by simp [hn, ← hl, rv.length]) hst fun h' hx => ?_
  have I1 : Inv X pins σ H { s with heap := h' } := I.kept (t' := s.toks) fun b o e => hx b o (Nat.ne_of_lt (Heap.lt_size e)) e
  exact h pins _ σ H xs _ Q I1 (by simpa using rv) hw
def tAsg (te : TE) (g : TG) : TS := fun D σ H => te σ H fun x H1 => g x σ H1 D.nx
theorem ps_set {i : Nat} {x : Str} {e : Expr} {te : TE} {pos' : Pos} (hN : X.N.Nodup) (hi : X.N[i]? = some x) (hx : Loc X.env.scope x) (he : PE X e te) (hs : swapsWith e (some (.Name x pos')) pos.line X.env = pure false := by rfl) (hf : X.fn x = true ∨ X.env.scope.names.lookup x = some .local := by first | exact .inl rfl | exact .inr rfl | assumption) :
    PS X (.Assign [.Name x pos'] e pos) (tAsg te (gName i)) := by
  intro pins s σ H D I h
  refine wpAny_Assign_Name (thn (he pins s σ H _ I h) fun v s1 ⟨y, H1, I1, r1, q1⟩ => ?_) hs
  exact store_ok I1 hN hi hx r1 (fun s2 I2 => ⟨_, H1, I2, q1⟩) hf
end
section
variable {X : Cx} {pos : Pos}
end
structure It where
  go : Nat → Hp → Prop
  yld : Nat → Hp → V → Hp → Prop
  stop : Nat → Hp → Prop
def FpOk (X : Cx) (pins : List (Addr × Obj)) (H : Hp) (b : Addr) : Prop :=
  H b = none ∧ b ≠ X.env.locals ∧ b ∉ X.fs ∧ (b ∈ X.ex ∨ X.s₀.heap.objs.size ≤ b) ∧ (∀ x c, X.env.cells.lookup x = some c → c ≠ b) ∧ ∀ p ∈ X.pn ++ pins, p.1 ≠ b
theorem Inv.fpOk {X : Cx} {pins : List (Addr × Obj)} {σ : St} {H H' : Hp} {s : Shared} {b : Addr} (I : Inv X pins σ H s) (hb : s.heap.objs.size ≤ b) (hn : H' b = none) : FpOk X pins H' b := by
  refine ⟨hn, Nat.ne_of_gt (Nat.lt_of_lt_of_le I.lt hb), I.nofs hb, .inr (Nat.le_trans I.sz hb), fun x c e z => ?_, fun p hp z => ?_⟩
  · obtain ⟨v, q⟩ := I.cell x c e
    exact absurd (Nat.lt_of_lt_of_le q.lt (by rw [z]; exact hb)) (Nat.lt_irrefl _)
  · exact absurd (Nat.lt_of_lt_of_le (Heap.lt_size (I.pin p hp).1) (by rw [z]; exact hb)) (Nat.lt_irrefl _)
structure Turn (P : Program) (w : World) (K : PySem.W.Frag) (tg : Expr) (J : It) (fp : List Addr) (it : Addr) (tn : Nat → Heap → Prop) : Prop where
  mem : it ∈ fp
  obj : ∀ i h, tn i h → ∀ b ∈ fp, ∃ o, h.get? b = some o ∧ ∀ v, o.data ≠ .cell v
  keep : ∀ i h h', tn i h → (∀ b ∈ fp, ∀ o, h.get? b = some o → h'.get? b = some o) → tn i h'
  item : ∀ (X : Cx), X.prog = P → X.w = w → X.K = K → X.calm = true → ∀ (i : Nat) (pins : List (Addr × Obj)) (s : Shared) (σ : St) (H : Hp) (E : Value → Shared → Prop), Inv X pins σ H s → (∀ b ∈ fp, FpOk X pins H b) → tn i s.heap → J.go i H →
    wpAny (model P w) X.A (pyNext (.ref it)) (fun r s1 => ∃ u, r = some u ∧
      wpAny (model P w) X.A (letOwnedTupleGo tg (.ref it) u) (fun _ s2 => ∃ x H', Inv X pins σ H' s2 ∧ RelV x u ∧ J.yld i H x H' ∧ tn (i + 1) s2.heap ∧ ∀ b ∈ fp, H' b = none) E s1) E s
  done : ∀ (X : Cx), X.prog = P → X.w = w → X.K = K → X.calm = true → ∀ (i : Nat) (pins : List (Addr × Obj)) (s : Shared) (σ : St) (H : Hp) (E : Value → Shared → Prop), Inv X pins σ H s → (∀ b ∈ fp, FpOk X pins H b) → tn i s.heap → J.stop i H →
    wpAny (model P w) X.A (pyNext (.ref it)) (fun r s1 => r = none ∧ Inv X pins σ H s1) E s
  self : ∀ (A : Around) (i : Nat) (s : Shared) (Q : Value → Shared → Prop) (E : Value → Shared → Prop), tn i s.heap → Q (.ref it) s → wpAny (model P w) A (pyIter (.ref it)) Q E s
abbrev TI := St → Hp → (It → Hp → Prop) → Prop
def PIE (X : Cx) (pins : List (Addr × Obj)) (σ : St) (tg : Expr) (R : It → Hp → Prop) (itv : Value) (s2 : Shared) : Prop :=
  ∃ (it : Addr) (fp : List Addr) (tn : Nat → Heap → Prop) (J : It) (H' : Hp), itv = .ref it ∧ Inv X pins σ H' s2 ∧ Turn X.prog X.w X.K tg J fp it tn ∧ tn 0 s2.heap ∧ (∀ b ∈ fp, FpOk X pins H' b) ∧ R J H'
def PI (X : Cx) (tg iter : Expr) (wi : TI) : Prop :=
  ∀ (pins : List (Addr × Obj)) (s : Shared) (σ : St) (H : Hp) (R : It → Hp → Prop), Inv X pins σ H s → wi σ H R →
    wpAny (model X.prog X.w) X.A (eval iter X.env) (fun v s1 => wpAny (model X.prog X.w) X.A (pyIter v) (PIE X pins σ tg R) X.xe s1) X.xe s
theorem go_of {M : Model} {A : Around} {E : Value → Shared → Prop} {s : Shared} {tg : Expr} {it : Addr} {u : Value} {o : Obj} {n : String} {vs : Array Value} {Q : Unit → Shared → Prop} (ho : s.heap.get? it = some o) (hc : o.cls = .type n) (hd : o.data = .fields vs)
    (hn : ["enumerate", "zip", "dict_itemiterator", "dict_reverseitemiterator", "odict_iterator", "itertools.zip_longest", "itertools.pairwise"].contains n = false) (hQ : Q () s) : wpAny M A (letOwnedTupleGo tg (.ref it) u) Q E s := by
  unfold letOwnedTupleGo
  cases tg <;> first
    | exact wpAny_pure hQ
    | (cases u <;> first
        | exact wpAny_pure hQ
        | (refine wpAny_bind (wpAny_load ho ?_)
           rw [hc, hd]
           show wpAny M A (if (["enumerate", "zip", "dict_itemiterator", "dict_reverseitemiterator", "odict_iterator", "itertools.zip_longest", "itertools.pairwise"].contains n && vs[0]? == some (rawInt _)) = true then _ else _) Q E s
           rw [if_neg (by intro h; rw [hn, Bool.false_and] at h; cases h)]
           exact wpAny_pure hQ))
def Itl (K : PySem.W.Frag) (a : Addr) : It :=
  ⟨fun i H => ∃ xs x, SqL K H a xs ∧ xs[i]? = some x, fun i H x H' => H' = H ∧ ∀ xs, SqL K H a xs → xs[i]? = some x, fun i H => ∃ xs, SqL K H a xs ∧ xs.length ≤ i⟩
def Itt (K : PySem.W.Frag) (a : Addr) : It :=
  ⟨fun i H => ∃ xs x, SqT K H a xs ∧ xs[i]? = some x, fun i H x H' => H' = H ∧ ∀ xs, SqT K H a xs → xs[i]? = some x, fun i H => ∃ xs, SqT K H a xs ∧ xs.length ≤ i⟩
def Itr (lo : Int) (n : Nat) : It := ⟨fun i _ => i < n, fun i H x H' => H' = H ∧ x = .int (lo + i), fun i _ => n ≤ i⟩
theorem turn_list {P : Program} {w : World} {K : PySem.W.Frag} {tg : Expr} (a it : Addr) : Turn P w K tg (Itl K a) [it] it (fun i h => h.IsListIter it a i) where
  mem := by simp
  obj := fun i h st b hb => by
    have e : b = it := by simpa using hb
    subst e
    obtain ⟨o, e, c, d⟩ := st
    exact ⟨o, e, fun v z => by rw [d] at z; cases z⟩
  keep := fun i h h' st k => st.at fun o e => k it (by simp) o e
  item := by
    intro X hP hw hK hc i pins s σ H E I hf st hg
    subst hP hw hK
    obtain ⟨xs, x, hq, hx⟩ := hg
    obtain ⟨its, rv, p, hz⟩ := I.list hq
    obtain ⟨u, hu, ru⟩ := rv.get hx
    obtain ⟨f0, f1, f2, f3, f4, f5⟩ := hf it (by simp)
    refine wpAny_pyNext_list_item st p.isList (x := u) (by simpa using hu) fun h' st' sb => ?_
    have I1 : Inv X pins σ H { s with heap := h' } := I.turned (t' := s.toks) (fun b o hb e => (sb.2 b hb).trans e) f0 f1 f3 f4 f5
    obtain ⟨o, e, c, d⟩ := id st'
    exact ⟨u, rfl, go_of (s := { s with heap := h' }) e c d (by decide) ⟨x, H, I1, ru, ⟨rfl, fun ys hy => by rw [I.list_inj hy hq]; exact hx⟩, st', fun b hb => (hf b hb).1⟩⟩
  done := by
    intro X hP hw hK hc i pins s σ H E I hf st hg
    subst hP hw hK
    obtain ⟨xs, hq, hx⟩ := hg
    obtain ⟨its, rv, p, hz⟩ := I.list hq
    obtain ⟨f0, f1, f2, f3, f4, f5⟩ := hf it (by simp)
    have hl := rv.length
    exact wpAny_pyNext_list_end (I.ok.hd hc) st p.isList (by simp; omega) fun h' eb => ⟨rfl, I.turned (t' := s.toks) (fun b o hb e => eb b o hb e) f0 f1 f3 f4 f5⟩
  self := fun _ _ _ _ _ st h => wpAny_pyIter_listiter st h
theorem turn_tuple {P : Program} {w : World} {K : PySem.W.Frag} {tg : Expr} (a it : Addr) : Turn P w K tg (Itt K a) [it] it (fun i h => h.IsTupleIter it a i) where
  mem := by simp
  obj := fun i h st b hb => by
    have e : b = it := by simpa using hb
    subst e
    obtain ⟨o, e, c, d⟩ := st
    exact ⟨o, e, fun v z => by rw [d] at z; cases z⟩
  keep := fun i h h' st k => st.at fun o e => k it (by simp) o e
  item := by
    intro X hP hw hK hc i pins s σ H E I hf st hg
    subst hP hw hK
    obtain ⟨xs, x, hq, hx⟩ := hg
    obtain ⟨its, rv, p, hz⟩ := I.tuple hq
    obtain ⟨u, hu, ru⟩ := rv.get hx
    obtain ⟨f0, f1, f2, f3, f4, f5⟩ := hf it (by simp)
    refine wpAny_pyNext_tuple_item st (show s.heap.IsTuple a its.toArray from p) (x := u) (by simpa using hu) fun h' st' sb => ?_
    have I1 : Inv X pins σ H { s with heap := h' } := I.turned (t' := s.toks) (fun b o hb e => (sb.2 b hb).trans e) f0 f1 f3 f4 f5
    obtain ⟨o, e, c, d⟩ := id st'
    exact ⟨u, rfl, go_of (s := { s with heap := h' }) e c d (by decide) ⟨x, H, I1, ru, ⟨rfl, fun ys hy => by rw [I.tuple_inj hy hq]; exact hx⟩, st', fun b hb => (hf b hb).1⟩⟩
  done := by
    intro X hP hw hK hc i pins s σ H E I hf st hg
    subst hP hw hK
    obtain ⟨xs, hq, hx⟩ := hg
    obtain ⟨its, rv, p, hz⟩ := I.tuple hq
    obtain ⟨f0, f1, f2, f3, f4, f5⟩ := hf it (by simp)
    have hl := rv.length
    exact wpAny_pyNext_tuple_end (I.ok.hd hc) st (show s.heap.IsTuple a its.toArray from p) (by simp; omega) fun h' eb => ⟨rfl, I.turned (t' := s.toks) (fun b o hb e => eb b o hb e) f0 f1 f3 f4 f5⟩
  self := fun _ _ _ _ _ st h => wpAny_pyIter_tupleiter st h
theorem turn_range {P : Program} {w : World} {K : PySem.W.Frag} {tg : Expr} (it : Addr) (lo : Int) (n : Nat) : Turn P w K tg (Itr lo n) [it] it (fun i h => IsRangeIter h it (lo + (i : Nat) * 1) ((n : Int) - (i : Nat)) 1) where
  mem := by simp
  obj := fun i h st b hb => by
    have e : b = it := by simpa using hb
    subst e
    exact ⟨_, st, fun v z => by
      have z' : Data.fields _ = Data.cell v := z
      cases z'⟩
  keep := fun i h h' st k => k it (by simp) _ st
  item := by
    intro X hP hw hK hc i pins s σ H E I hf st hg
    subst hP hw hK
    obtain ⟨f0, f1, f2, f3, f4, f5⟩ := hf it (by simp)
    have W := Walks.range (prog := X.prog) (w := X.w) (I.ok.hd hc) it lo 1 n
    refine W.item i s _ _ hg st fun v h' tk hv st' kk => ?_
    obtain ⟨t, rfl⟩ := hv
    have I1 : Inv X pins σ H { s with heap := h', toks := tk } := I.turned (fun b o hb e => kk b o (by simpa using hb) e) f0 f1 f3 f4 f5
    refine ⟨_, rfl, go_of (s := { s with heap := h', toks := tk }) (n := "range_iterator") st' rfl rfl (by decide) ⟨.int (lo + i), H, I1, ⟨t, ?_⟩, ⟨rfl, rfl⟩, st', fun b hb => (hf b hb).1⟩⟩
    rw [Int.mul_one]
  done := by
    intro X hP hw hK hc i pins s σ H E I hf st hg
    subst hP hw hK
    obtain ⟨f0, f1, f2, f3, f4, f5⟩ := hf it (by simp)
    exact wpAny_pyNext_range_end (I.ok.hd hc) st (by have : n ≤ i := hg; omega) fun h' eb => ⟨rfl, I.turned (t' := s.toks) (fun b o hb e => eb b o hb e) f0 f1 f3 f4 f5⟩
  self := fun _ _ _ _ _ st h => wpAny_pyIter_rangeiter st h
end L2
namespace L2
open PySem PySem.Spec PyProof.Rows
section
variable {X : Cx} {tg : Expr}
def iList (K : PySem.W.Frag) (tl : TE) : TI := fun σ H R => tl σ H fun x H1 => ∃ a, x = .ref a ∧ (∃ xs, SqL K H1 a xs) ∧ R (Itl K a) H1
def iTup (K : PySem.W.Frag) (tl : TE) : TI := fun σ H R => tl σ H fun x H1 => ∃ a, x = .ref a ∧ (∃ xs, SqT K H1 a xs) ∧ R (Itt K a) H1
theorem pi_list {l : Expr} {tl : TE} (hl : PE X l tl) : PI X tg l (iList X.K tl) := by
  intro pins s σ H R I h
  refine thn (hl pins s σ H _ I h) fun v s1 ⟨x, H1, I1, r1, q1⟩ => ?_
  obtain ⟨a, e, ⟨xs, hq⟩, q⟩ := q1
  subst e
  cases r1
  obtain ⟨its, rv, p, hz⟩ := I1.list hq
  refine wpAny_pyIter_list p.isList ?_
  refine ⟨s1.heap.objs.size, [s1.heap.objs.size], _, _, H1, rfl, I1.kept (t' := s1.toks) fun b o e => Heap.get?_push_of_some _ e, turn_list a _, ⟨_, Heap.get?_push_size _ rfl, rfl, rfl⟩, fun b hb => ?_, q⟩
  have e : b = s1.heap.objs.size := by simpa using hb
  subst e
  exact I1.fpOk (Nat.le_refl _) (I1.hok.fresh (Nat.le_refl _))
theorem pi_tup {l : Expr} {tl : TE} (hl : PE X l tl) : PI X tg l (iTup X.K tl) := by
  intro pins s σ H R I h
  refine thn (hl pins s σ H _ I h) fun v s1 ⟨x, H1, I1, r1, q1⟩ => ?_
  obtain ⟨a, e, ⟨xs, hq⟩, q⟩ := q1
  subst e
  cases r1
  obtain ⟨its, rv, p, hz⟩ := I1.tuple hq
  refine wpAny_pyIter_tuple (show s1.heap.IsTuple a its.toArray from p) ?_
  refine ⟨s1.heap.objs.size, [s1.heap.objs.size], _, _, H1, rfl, I1.kept (t' := s1.toks) fun b o e => Heap.get?_push_of_some _ e, turn_tuple a _, ⟨_, Heap.get?_push_size _ rfl, rfl, rfl⟩, fun b hb => ?_, q⟩
  have e : b = s1.heap.objs.size := by simpa using hb
  subst e
  exact I1.fpOk (Nat.le_refl _) (I1.hok.fresh (Nat.le_refl _))
theorem range_it {pins : List (Addr × Obj)} {σ : St} {H : Hp} {s : Shared} {R : It → Hp → Prop} {E : Value → Shared → Prop} {lo hi : Int} {t u v : Tok} {tk : Nat} (I : Inv X pins σ H s) (h1 : -(2 ^ 62) ≤ lo) (h2 : lo < 2 ^ 62) (h3 : -(2 ^ 62) ≤ hi) (h4 : hi < 2 ^ 62)
    (q : R (Itr lo (hi - lo).toNat) H) : wpAny (model X.prog X.w) X.A (pyIter (.ref s.heap.objs.size)) (PIE X pins σ tg R) E { s with heap := s.heap.push { cls := .type "range", data := .fields #[.int lo t, .int hi u, .int 1 v] }, toks := tk } := by
  refine wpAny_pyIter_range (IsRange.new ..) (small_one h1 h2 h3 h4) ?_
  have I1 : Inv X pins σ H { s with heap := s.heap.push { cls := .type "range", data := .fields #[.int lo t, .int hi u, .int 1 v] }, toks := tk } := I.kept fun b o e => Heap.get?_push_of_some _ e
  refine ⟨(s.heap.push { cls := .type "range", data := .fields #[.int lo t, .int hi u, .int 1 v] }).objs.size, [(s.heap.push { cls := .type "range", data := .fields #[.int lo t, .int hi u, .int 1 v] }).objs.size], _, _, H, rfl,
    I1.kept (t' := tk) fun b o e => Heap.get?_push_of_some _ e, turn_range _ lo (hi - lo).toNat, ?_, fun b hb => ?_, q⟩
  · have e1 : lo + ((0 : Nat) : Int) * 1 = lo := by simp
    have e2 : (((hi - lo).toNat : Nat) : Int) - ((0 : Nat) : Int) = Builtin.Range.rangeSize lo hi 1 := by rw [rangeSize_one]; split <;> omega
    show IsRangeIter _ _ (lo + ((0 : Nat) : Int) * 1) ((((hi - lo).toNat : Nat) : Int) - ((0 : Nat) : Int)) 1
    rw [e1, e2]
    exact Heap.get?_push_size _ rfl
  · have e : b = (s.heap.push { cls := .type "range", data := .fields #[.int lo t, .int hi u, .int 1 v] }).objs.size := by simpa using hb
    subst e
    exact I1.fpOk (Nat.le_refl _) (I1.hok.fresh (Nat.le_refl _))
def iRng1 (ta : TA) : TI := fun σ H R => ta σ H fun vs H1 => ∃ j : Int, vs = [.int j] ∧ -(2 ^ 62) ≤ j ∧ j < 2 ^ 62 ∧ R (Itr 0 j.toNat) H1
def iRng2 (ta : TA) : TI := fun σ H R => ta σ H fun vs H1 => ∃ i j : Int, vs = [.int i, .int j] ∧ (-(2 ^ 62) ≤ i ∧ i < 2 ^ 62 ∧ -(2 ^ 62) ≤ j ∧ j < 2 ^ 62) ∧ R (Itr i (j - i).toNat) H1
theorem pi_range1 {a : Expr} {ta : TA} {p pos : Pos} (hg : Gl X "range") (hm : X.mg "range" = none) (ha : PA X [a] ta) (hs : starEach [a] X.env = [(false, eval a X.env)] := by rfl) : PI X tg (.Call (.Name "range" p) [a] [] pos) (iRng1 ta) := by
  intro pins s σ H R I h
  refine Call_ (ld_blt I hg hm boot_range (PyProof.Rows.callWith_type1 (thn (ha pos pins s σ H _ I h) fun us s1 ⟨vs, H1, I1, r1, q1⟩ => ?_) hs rfl))
  obtain ⟨j, e, q1, q2, q⟩ := q1
  subst e
  cases r1 with
  | cons r rr =>
    cases rr
    obtain ⟨t, rfl⟩ := r
    exact call_range_1 (range_it I1 (by omega) (by omega) q1 q2 (by simpa using q))
theorem pi_range2 {a b : Expr} {ta : TA} {p pos : Pos} (hg : Gl X "range") (hm : X.mg "range" = none) (ha : PA X [a, b] ta) (hs : starEach [a, b] X.env = [(false, eval a X.env), (false, eval b X.env)] := by rfl) (hs2 : starEach [b] X.env = [(false, eval b X.env)] := by rfl) :
    PI X tg (.Call (.Name "range" p) [a, b] [] pos) (iRng2 ta) := by
  intro pins s σ H R I h
  refine Call_ (ld_blt I hg hm boot_range (PyProof.Rows.callWith_type1 (thn (ha pos pins s σ H _ I h) fun us s1 ⟨vs, H1, I1, r1, q1⟩ => ?_) (by rw [hs, hs2]) (by rw [hs2]; rfl)))
  obtain ⟨i, j, e, ⟨q1, q2, q3, q4⟩, q⟩ := q1
  subst e
  cases r1 with
  | cons r rr =>
    cases rr with
    | cons r' rr =>
      cases rr
      obtain ⟨t, rfl⟩ := r
      obtain ⟨t', rfl⟩ := r'
      exact call_range_2 (range_it I1 q1 q2 q3 q4 q)
def tFor (wi : TI) (g : TG) (tb : TS) : TS := fun D σ H => wi σ H fun J H1 => ∃ W : Nat → Nat → St → Hp → Prop, (∃ m, W 0 m σ H1) ∧ ∀ i m σ H, W i m σ H →
  (J.stop i H ∧ D.nx σ H) ∨ (J.go i H ∧ ∃ N : St → Hp → Prop, (∀ σ' H', N σ' H' → ∃ m', m' < m ∧ W (i + 1) m' σ' H') ∧ ∀ x H', J.yld i H x H' → g x σ H' fun σ2 H2 => tb { D with nx := N, ct := N, bk := D.nx } σ2 H2)
def pinsAt (fp : List Addr) (h : Heap) : List (Addr × Obj) := fp.filterMap fun b => (h.get? b).map fun o => (b, o)
theorem mem_pinsAt {fp : List Addr} {h : Heap} {b : Addr} {o : Obj} (hb : b ∈ fp) (e : h.get? b = some o) : (b, o) ∈ pinsAt fp h := List.mem_filterMap.mpr ⟨b, hb, by rw [e]; rfl⟩
theorem of_pinsAt {fp : List Addr} {h : Heap} {p : Addr × Obj} (hp : p ∈ pinsAt fp h) : p.1 ∈ fp ∧ h.get? p.1 = some p.2 := by
  obtain ⟨b, hb, e⟩ := List.mem_filterMap.mp hp
  cases q : h.get? b with
  | none => rw [q] at e; cases e
  | some o =>
    rw [q] at e
    have e' : (b, o) = p := Option.some.inj e
    subst e'
    exact ⟨hb, q⟩
theorem Inv.pinned {pins : List (Addr × Obj)} {σ : St} {H : Hp} {s : Shared} {fp : List Addr} (I : Inv X pins σ H s) (hf : ∀ b ∈ fp, FpOk X pins H b) (ho : ∀ b ∈ fp, ∃ o, s.heap.get? b = some o ∧ ∀ v, o.data ≠ .cell v) : Inv X (pins ++ pinsAt fp s.heap) σ H s :=
  I.pins_of fun p hp => (List.mem_append.mp hp).elim (fun z => I.pin p (List.mem_append_right _ z)) fun z => by
    obtain ⟨hb, e⟩ := of_pinsAt z
    obtain ⟨f0, f1, f2, _⟩ := hf p.1 hb
    obtain ⟨o, e', d⟩ := ho p.1 hb
    rw [e] at e'; cases e'
    exact ⟨e, f0, f1, f2, d⟩
theorem Inv.unpinned {pins pl : List (Addr × Obj)} {σ : St} {H : Hp} {s : Shared} (I : Inv X (pins ++ pl) σ H s) : Inv X pins σ H s := I.pins_of fun p hp => I.pin p (List.mem_append_right _ (List.mem_append_left _ hp))
theorem ps_for {iter : Expr} {body : List Stmt} {wi : TI} {g : TG} {tb : TS} {pos : Pos} (hp : PassesOwn (model X.prog X.w) X.A X.env X.xe) (hc : X.calm = true) (hi : PI X tg iter wi) (hg : PG X tg g) (hb : PSs X body tb)
    (hs : ∀ x, foldedSetIterable iter X.env x = pure x := by intro _; rfl) : PS X (.For tg iter body [] pos) (tFor wi g tb) := by
  intro pins s σ H D I h
  refine wpAny_For (thn (hi pins s σ H _ I h) fun v s1 h1 => thn h1 fun itv s2 h2 => ?_) hs
  obtain ⟨it, fp, tn, J, H2, e, I2, T, st2, f2, W, ⟨m0, w0⟩, turn⟩ := h2
  subst e
  have stat : ∀ {H' : Hp}, (∀ b ∈ fp, H' b = none) → ∀ b ∈ fp, FpOk X pins H' b := fun hn b hb => ⟨hn b hb, (f2 b hb).2⟩
  refine codeAny_forLoop_any (fun n s' => ∃ i σ' H', Inv X pins σ' H' s' ∧ tn i s'.heap ∧ (∀ b ∈ fp, H' b = none) ∧ W i n σ' H') ?_ m0 ⟨0, σ, H2, I2, st2, fun b hb => (f2 b hb).1, w0⟩
  rintro n s3 ⟨i, σ3, H3, I3, st3, fr3, w3⟩
  rcases turn i n σ3 H3 w3 with ⟨stop, qn⟩ | ⟨go, N, hN, step⟩
  · refine wpAny_passesOwn hp (thn (T.done X rfl rfl rfl hc i pins s3 σ3 H3 X.xe I3 (stat fr3) st3 stop) fun r s4 ⟨hr, I4⟩ => ?_)
    subst hr
    exact wpAny_execs_nil ⟨σ3, H3, I4, qn⟩
  · refine wpAny_passesOwn hp (thn (T.item X rfl rfl rfl hc i pins s3 σ3 H3 X.xe I3 (stat fr3) st3 go) fun r s4 ⟨u, hr, h4⟩ => ?_)
    subst hr
    refine wpAny_passesOwn hp (thn h4 fun _ s5 ⟨x, H5, I5, r5, y5, st5, fr5⟩ => ?_)
    have I5' := I5.pinned (stat fr5) (T.obj _ _ st5)
    refine wpAny_passesOwn hp (thn (hg _ s5 σ3 H5 x u _ I5' r5 (step x H5 y5)) fun _ s6 ⟨σ6, H6, I6, q6⟩ => ?_)
    refine wpAny_passesOwn hp (thn (hb _ s6 σ6 H6 _ I6 q6) fun f s7 q7 => ?_)
    have again : ∀ {σ7 : St} {H7 : Hp}, Inv X (pins ++ pinsAt fp s5.heap) σ7 H7 s7 → N σ7 H7 → ∃ m, m < n ∧ ∃ i σ' H', Inv X pins σ' H' s7 ∧ tn i s7.heap ∧ (∀ b ∈ fp, H' b = none) ∧ W i m σ' H' := fun {σ7 H7} I7 n7 => by
      obtain ⟨m', hm, w7⟩ := hN σ7 H7 n7
      refine ⟨m', hm, i + 1, σ7, H7, I7.unpinned, T.keep _ _ _ st5 fun b hb o e => (I7.pin (b, o) (List.mem_append_right _ (List.mem_append_right _ (mem_pinsAt hb e)))).1, fun b hb => ?_, w7⟩
      obtain ⟨o, e, d⟩ := T.obj _ _ st5 b hb
      exact (I7.pin (b, o) (List.mem_append_right _ (List.mem_append_right _ (mem_pinsAt hb e)))).2.1
    cases f with
    | next => obtain ⟨σ7, H7, I7, n7⟩ := q7; exact again I7 n7
    | cont => obtain ⟨σ7, H7, I7, n7⟩ := q7; exact again I7 n7
    | brk => obtain ⟨σ7, H7, I7, q7⟩ := q7; exact ⟨σ7, H7, I7.unpinned, q7⟩
    | ret v => obtain ⟨x7, σ7, H7, I7, r7, q7⟩ := q7; exact ⟨x7, σ7, H7, I7.unpinned, r7, q7⟩
end
end L2
namespace L2
open PySem PySem.Spec PyProof.Rows
abbrev R2 := V → V → Hp → VK → Prop
def OpR (X : Cx) (f : Value → Value → Sem Value) (r : R2) : Prop :=
  ∀ (pins : List (Addr × Obj)) (s : Shared) (σ : St) (H : Hp) (x y : V) (v u : Value) (Q : VK), Inv X pins σ H s → RelV x v → RelV y u → r x y H Q →
    wpAny (model X.prog X.w) X.A (f v u) (EP X pins σ Q) X.xe s
def UnR (X : Cx) (f : Value → Sem Value) (r : V → Hp → VK → Prop) : Prop :=
  ∀ (pins : List (Addr × Obj)) (s : Shared) (σ : St) (H : Hp) (x : V) (v : Value) (Q : VK), Inv X pins σ H s → RelV x v → r x H Q →
    wpAny (model X.prog X.w) X.A (f v) (EP X pins σ Q) X.xe s
def CallR (X : Cx) (f : Value) (r : List V → Hp → VK → Prop) : Prop :=
  ∀ (pins : List (Addr × Obj)) (s : Shared) (σ : St) (H : Hp) (xs : List V) (us : List Value) (Q : VK), Inv X pins σ H s → Vals xs us → r xs H Q →
    wpAny (model X.prog X.w) X.A (call f us) (EP X pins σ Q) X.xe s
def tOp (r : R2) (ta tb : TE) : TE := fun σ H Q => ta σ H fun x H1 => tb σ H1 fun y H2 => r x y H2 Q
def tUn (r : V → Hp → VK → Prop) (ta : TE) : TE := fun σ H Q => ta σ H fun x H1 => r x H1 Q
def rI (C : Int → Int → Prop) (g : Int → Int → V) : R2 := fun x y H Q => ∃ i j, x = .int i ∧ y = .int j ∧ C i j ∧ Q (g i j) H
def rI0 (g : Int → Int → V) : R2 := fun x y H Q => ∃ i j, x = .int i ∧ y = .int j ∧ Q (g i j) H
def rU (g : Int → V) : V → Hp → VK → Prop := fun x H Q => ∃ i, x = .int i ∧ Q (g i) H
section
variable {X : Cx} {a b c : Expr} {ta tb tc : TE} {pos : Pos}
theorem binT (ha : PE X a ta) (hb : PE X b tb) {pins : List (Addr × Obj)} {s : Shared} {σ : St} {H : Hp} {R : V → V → Hp → Prop} (I : Inv X pins σ H s)
    (h : ta σ H fun x H1 => tb σ H1 fun y H2 => R x y H2) {Q : Value → Shared → Prop} {f : Value → Value → Sem Value}
    (hf : ∀ v u s2 x y H2, Inv X pins σ H2 s2 → RelV x v → RelV y u → R x y H2 → wpAny (model X.prog X.w) X.A (f v u) Q X.xe s2) :
    wpAny (model X.prog X.w) X.A (eval a X.env) (fun v s₁ => wpAny (model X.prog X.w) X.A (eval b X.env) (fun u s₂ => wpAny (model X.prog X.w) X.A (f v u) Q X.xe s₂) X.xe s₁) X.xe s := by
  refine thn (ha pins s σ H _ I h) fun v s1 ⟨x, H1, I1, r1, q1⟩ => ?_
  refine thn (hb pins s1 σ H1 _ I1 q1) fun u s2 ⟨y, H2, I2, r2, q2⟩ => ?_
  exact hf v u s2 x y H2 I2 r1 r2 q2
theorem pe_op {op : Operator} {r : R2} (ho : OpR X (binaryOp op) r) (ha : PE X a ta) (hb : PE X b tb) : PE X (.BinOp a op b pos) (tOp r ta tb) := by
  intro pins s σ H Q I h
  exact wpAny_BinOp (binT ha hb I h fun v u s2 x y H2 I2 rx ry q => ho pins s2 σ H2 x y v u Q I2 rx ry q)
theorem pe_un {op : UnaryOp} {r : V → Hp → VK → Prop} (ho : UnR X (unaryOp op) r) (ha : PE X a ta) : PE X (.UnaryOp op a pos) (tUn r ta) := by
  intro pins s σ H Q I h
  exact UnaryOp_ (thn (ha pins s σ H _ I h) fun v s1 ⟨x, H1, I1, r1, q1⟩ => ho pins s1 σ H1 x v Q I1 r1 q1)
theorem opI {f : Value → Value → Sem Value} {C : Int → Int → Prop} {g : Int → Int → Int}
    (rule : ∀ (i j : Int) (t u : Tok) (s : Shared) (Q : Value → Shared → Prop) (E : Value → Shared → Prop), C i j → Q (.int (g i j) s.toks) { s with toks := s.toks + 1 } → wpAny (model X.prog X.w) X.A (f (.int i t) (.int j u)) Q E s) :
    OpR X f (rI C fun i j => .int (g i j)) := by
  intro pins s σ H x y v u Q I rx ry h
  obtain ⟨i, j, rfl, rfl, hc, q⟩ := h
  obtain ⟨t, rfl⟩ := rx
  obtain ⟨t', rfl⟩ := ry
  exact rule i j t t' s _ _ hc ⟨.int (g i j), H, I.tok _, ⟨_, rfl⟩, q⟩
theorem opI0 {f : Value → Value → Sem Value} {g : Int → Int → Int}
    (rule : ∀ (i j : Int) (t u : Tok) (s : Shared) (Q : Value → Shared → Prop) (E : Value → Shared → Prop), Q (.int (g i j) s.toks) { s with toks := s.toks + 1 } → wpAny (model X.prog X.w) X.A (f (.int i t) (.int j u)) Q E s) :
    OpR X f (rI0 fun i j => .int (g i j)) := by
  intro pins s σ H x y v u Q I rx ry h
  obtain ⟨i, j, rfl, rfl, q⟩ := h
  obtain ⟨t, rfl⟩ := rx
  obtain ⟨t', rfl⟩ := ry
  exact rule i j t t' s _ _ ⟨.int (g i j), H, I.tok _, ⟨_, rfl⟩, q⟩
theorem opB0 {f : Value → Value → Sem Value} {g : Int → Int → Bool}
    (rule : ∀ (i j : Int) (t u : Tok) (s : Shared) (Q : Value → Shared → Prop) (E : Value → Shared → Prop), Q (.bool (g i j)) s → wpAny (model X.prog X.w) X.A (f (.int i t) (.int j u)) Q E s) :
    OpR X f (rI0 fun i j => .bl (g i j)) := by
  intro pins s σ H x y v u Q I rx ry h
  obtain ⟨i, j, rfl, rfl, q⟩ := h
  obtain ⟨t, rfl⟩ := rx
  obtain ⟨t', rfl⟩ := ry
  exact rule i j t t' s _ _ ⟨.bl (g i j), H, I, rfl, q⟩
def CPow (i j : Int) : Prop := 0 ≤ j ∧ j ≤ 1000000 ∧ i.natAbs < 2 ^ 64
def CMul (i j : Int) : Prop := (-(2 ^ 64) < i ∧ i < 2 ^ 64) ∨ (-(2 ^ 64) < j ∧ j < 2 ^ 64)
theorem CMul.ok {i j : Int} (h : CMul i j) : IntMulOk i j := by
  rcases h with ⟨h1, h2⟩ | ⟨h1, h2⟩
  · exact .of_left (intBits_le_64 h1 h2)
  · exact .of_right (intBits_le_64 h1 h2)
theorem two_pow_nn (k : Nat) : (0 : Int) ≤ 2 ^ k := by
  rw [two_pow_cast]
  exact Int.natCast_nonneg _
theorem op_add : OpR X (binaryOp .Add) (rI0 fun i j => .int (i + j)) := opI0 fun _ _ _ _ _ _ _ q => add_int q
theorem op_sub : OpR X (binaryOp .Sub) (rI0 fun i j => .int (i - j)) := opI0 fun _ _ _ _ _ _ _ q => sub_int q
theorem op_mod : OpR X (binaryOp .Mod) (rI (fun _ j => 0 < j) fun i j => .int (i % j)) := opI fun i j _ _ _ _ _ hc q => by
  have h1 : (0 : Int) < j := hc
  exact mod_int' (by omega) (by rw [Int.fmod_eq_emod_of_nonneg i (by omega)]; exact q)
theorem op_pow : OpR X (binaryOp .Pow) (rI CPow fun i j => .int (i ^ j.toNat)) := opI fun _ _ _ _ _ _ _ hc q => pow_int_small hc.1 hc.2.1 hc.2.2 q
theorem op_shl : OpR X (binaryOp .LShift) (rI CPow fun i j => .int (i * 2 ^ j.toNat)) := opI fun _ _ _ _ _ _ _ hc q => lshift_int_small hc.1 hc.2.1 hc.2.2 q
theorem op_shr : OpR X (binaryOp .RShift) (rI (fun _ j => 0 ≤ j) fun i j => .int (i / 2 ^ j.toNat)) := opI fun i j _ _ _ _ _ hc q =>
  rshift_int hc (by rw [Int.fdiv_eq_ediv_of_nonneg i (two_pow_nn _)]; exact q)
theorem op_and : OpR X (binaryOp .BitAnd) (rI0 fun i j => .int (Builtin.bitAnd i j)) := opI0 fun _ _ _ _ _ _ _ q => and_int q
theorem op_xor : OpR X (binaryOp .BitXor) (rI0 fun i j => .int (Builtin.bitXor i j)) := opI0 fun _ _ _ _ _ _ _ q => xor_int q
theorem unI {f : Value → Sem Value} {g : Int → Int}
    (rule : ∀ (i : Int) (t : Tok) (s : Shared) (Q : Value → Shared → Prop) (E : Value → Shared → Prop), Q (.int (g i) s.toks) { s with toks := s.toks + 1 } → wpAny (model X.prog X.w) X.A (f (.int i t)) Q E s) :
    UnR X f (rU fun i => .int (g i)) := by
  intro pins s σ H x v Q I rx h
  obtain ⟨i, rfl, q⟩ := h
  obtain ⟨t, rfl⟩ := rx
  exact rule i t s _ _ ⟨.int (g i), H, I.tok _, ⟨_, rfl⟩, q⟩
theorem un_neg : UnR X (unaryOp .USub) (rU fun i => .int (-i)) := unI fun _ _ _ _ _ q => neg_int q
end
def scal : V → V → Bool
  | .non, .non => true | .non, .int _ => true | .int _, .non => true | .non, .bl _ => true | .bl _, .non => true | .non, .str _ => true | .str _, .non => true
  | .int _, .int _ => true | .bl _, .bl _ => true | .str _, .str _ => true | .byt _, .byt _ => true
  | .int _, .str _ => true | .str _, .int _ => true | .bl _, .str _ => true | .str _, .bl _ => true
  | _, _ => false
section
variable {X : Cx} {a b c : Expr} {ta tb tc : TE} {pos : Pos}
theorem fin_bl {pins : List (Addr × Obj)} {σ : St} {H : Hp} {s : Shared} {Q : VK} {k k' : Bool} (I : Inv X pins σ H s) (q : Q (.bl k) H) (e : k = k') : EP X pins σ Q (.bool k') s := by
  subst e
  exact ⟨.bl k, H, I, rfl, q⟩
theorem op_lt : OpR X (compareOp .Lt) (rI0 fun i j => .bl (decide (i < j))) := opB0 fun _ _ _ _ _ _ _ q => lt_int q
theorem op_le : OpR X (compareOp .LtE) (rI0 fun i j => .bl (decide (i ≤ j))) := opB0 fun _ _ _ _ _ _ _ q => le_int q
theorem op_gt : OpR X (compareOp .Gt) (rI0 fun i j => .bl (decide (j < i))) := opB0 fun _ _ _ _ _ _ _ q => gt_int q
theorem op_ge : OpR X (compareOp .GtE) (rI0 fun i j => .bl (decide (j ≤ i))) := opB0 fun _ _ _ _ _ _ _ q => ge_int q
theorem op_in_str : OpR X (compareOp .In) (fun x y H Q => ∃ i j, x = .str i ∧ y = .str j ∧ Q (.bl (!(Builtin.Str.occurrences j i 0 j.length 1).isEmpty)) H) := by
  intro pins s σ H x y v u Q I rx ry h
  obtain ⟨i, j, rfl, rfl, q⟩ := h
  obtain ⟨t, rfl⟩ := rx
  obtain ⟨t', rfl⟩ := ry
  exact in_str (fin_bl I q rfl)
theorem OpR.or {f : Value → Value → Sem Value} {r r' : R2} (h : OpR X f r) (h' : OpR X f r') : OpR X f (fun x y H Q => r x y H Q ∨ r' x y H Q) := by
  intro pins s σ H x y v u Q I rx ry q
  rcases q with q | q
  · exact h pins s σ H x y v u Q I rx ry q
  · exact h' pins s σ H x y v u Q I rx ry q
theorem nomark (b : Expr) {op : CmpOp} (h : op ≠ .In := by decide) (h2 : op ≠ .NotIn := by decide) : behindInMarks op b = false := by
  have e1 : (op == CmpOp.In) = false := by cases op <;> first | rfl | exact absurd rfl h
  have e2 : (op == CmpOp.NotIn) = false := by cases op <;> first | rfl | exact absurd rfl h2
  cases b <;> simp [behindInMarks, e1, e2]
theorem pe_cmpR {op : CmpOp} {r : R2} (ho : OpR X (compareOp op) r) (ha : PE X a ta) (hb : PE X b tb) (hm : behindInMarks op b = false) : PE X (.Compare a [op] [b] pos) (tOp r ta tb) := by
  intro pins s σ H Q I h
  exact wpAny_Compare1 (binT ha hb I h fun v u s2 x y H2 I2 rx ry q => ho pins s2 σ H2 x y v u Q I2 rx ry q) hm
def tTest (t : TE) : TT := fun σ H Q => t σ H fun x H' => ∃ k, x = .bl k ∧ Q k H'
theorem pt_cmpR {op : CmpOp} {r : R2} (ho : OpR X (compareOp op) r) (ha : PE X a ta) (hb : PE X b tb) (hm : behindInMarks op b = false) : PT X (.Compare a [op] [b] pos) (tTest (tOp r ta tb)) := by
  intro pins s σ H Q I h
  refine wpAny_isTrue_Compare1 (thn (ha pins s σ H _ I h) fun v s1 ⟨x, H1, I1, r1, q1⟩ => thn (hb pins s1 σ H1 _ I1 q1) fun u s2 ⟨y, H2, I2, r2, q2⟩ =>
    thn (ho pins s2 σ H2 x y v u _ I2 r1 r2 q2) fun c s3 ⟨z, H3, I3, r3, k, e, q3⟩ => ?_) hm
  subst e
  cases r3
  exact wpAny_truthy_bool ⟨H3, I3, q3⟩
theorem line63 : (sizeLine : Nat) < 2 ^ 63 := by rw [sizeLine_eq]; decide
theorem vals1 {x : V} {us : List Value} (r : Vals [x] us) : ∃ u, us = [u] ∧ RelV x u := by
  cases r with
  | cons r1 r2 => cases r2; exact ⟨_, rfl, r1⟩
theorem vals2 {x y : V} {us : List Value} (r : Vals [x, y] us) : ∃ u w', us = [u, w'] ∧ RelV x u ∧ RelV y w' := by
  cases r with
  | cons r1 r2 =>
    cases r2 with
    | cons r3 r4 => cases r4; exact ⟨_, _, rfl, r1, r3⟩
theorem call_max2 (hc : X.calm = true) : CallR X (.builtin "max") (fun xs H Q => ∃ i j, xs = [.int i, .int j] ∧ Q (.int (if j > i then j else i)) H) := by
  intro pins s σ H xs us Q I r h
  obtain ⟨i, j, rfl, q⟩ := h
  obtain ⟨u, w', rfl, ⟨t, rfl⟩, ⟨t', rfl⟩⟩ := vals2 r
  refine max_two_ints (I.ok.hd hc) fun h' tk k => ⟨_, H, I.kept k, ?_, q⟩
  by_cases hj : j > i
  · rw [if_pos hj, if_pos hj]; exact ⟨_, rfl⟩
  · rw [if_neg hj, if_neg hj]; exact ⟨_, rfl⟩
theorem call_min2 (hc : X.calm = true) : CallR X (.builtin "min") (fun xs H Q => ∃ i j, xs = [.int i, .int j] ∧ Q (.int (if j < i then j else i)) H) := by
  intro pins s σ H xs us Q I r h
  obtain ⟨i, j, rfl, q⟩ := h
  obtain ⟨u, w', rfl, ⟨t, rfl⟩, ⟨t', rfl⟩⟩ := vals2 r
  refine min_two_ints (I.ok.hd hc) fun h' tk k => ⟨_, H, I.kept k, ?_, q⟩
  by_cases hj : j < i
  · rw [if_pos hj, if_pos hj]; exact ⟨_, rfl⟩
  · rw [if_neg hj, if_neg hj]; exact ⟨_, rfl⟩
def LenV (K : PySem.W.Frag) (x : V) (H : Hp) (n : Nat) : Prop :=
  match x with
  | .str y => y.length ≤ sizeLine ∧ n = y.length
  | .byt y => y.size ≤ sizeLine ∧ n = y.size
  | .ref p => (∃ xs, SqL K H p xs ∧ n = xs.length) ∨ ∃ xs, SqT K H p xs ∧ n = xs.length
  | _ => False
theorem call_len : CallR X (.builtin "len") (fun xs H Q => ∃ x n, xs = [x] ∧ LenV X.K x H n ∧ Q (.int n) H) := by
  intro pins s σ H xs us Q I r h
  obtain ⟨x, n, rfl, e, q⟩ := h
  obtain ⟨u, rfl, rx⟩ := vals1 r
  have hl := line63
  have hs : sizeLine = 16777216 := sizeLine_eq
  cases x with
  | str y =>
    obtain ⟨t, rfl⟩ := rx
    obtain ⟨hy, e'⟩ : y.length ≤ sizeLine ∧ n = y.length := e
    subst e'
    exact len_str (by omega) ⟨.int _, H, I.tok _, ⟨_, rfl⟩, q⟩
  | byt y =>
    obtain ⟨t, rfl⟩ := rx
    obtain ⟨hy, e'⟩ : y.size ≤ sizeLine ∧ n = y.size := e
    subst e'
    exact PySem.W.len_bytes (by omega) ⟨.int _, H, I.tok _, ⟨_, rfl⟩, q⟩
  | ref p =>
    cases rx
    have e' : (∃ xs, SqL X.K H p xs ∧ n = xs.length) ∨ ∃ xs, SqT X.K H p xs ∧ n = xs.length := e
    rcases e' with ⟨xs, hx, e'⟩ | ⟨xs, hx, e'⟩
    · subst e'
      obtain ⟨its, r', pl, hz⟩ := I.list hx
      have hlen := r'.length
      exact Calls.call_len_list pl.isList (by simp only [List.size_toArray]; omega) ⟨.int xs.length, H, I.tok _, ⟨_, by simp only [List.size_toArray]; rw [hlen]⟩, q⟩
    · subst e'
      obtain ⟨its, r', pl, hz⟩ := I.tuple hx
      have hlen := r'.length
      exact len_tuple pl (by simp only [List.size_toArray]; omega) ⟨.int xs.length, H, I.tok _, ⟨_, by simp only [List.size_toArray]; rw [hlen]⟩, q⟩
  | _ => exact (show False from e).elim
end
end L2
namespace L2
open PySem PySem.Spec PyProof.Rows
structure ObjM (h : Heap) (x dx C : Addr) (mA : Str → Option Value) : Prop where
  obj : h.get? x = some (PySem.W.instObj C dx)
  ns : h.Ns1 dx mA
  ne : dx ≠ x
theorem lookIn_ns {h : Heap} {dx : Addr} {mA : Str → Option Value} (n : h.Ns1 dx mA) : ∃ od, h.get? dx = some od ∧ ∀ name, PySem.W.lookIn name od = some (mA name) := by
  obtain ⟨o, es, ep, ho, hd, hk, _, hm⟩ := n
  refine ⟨o, ho, fun name => ?_⟩
  have e := hm name
  unfold nsFind findBy at e
  rw [← Array.find?_toList] at e
  unfold PySem.W.lookIn
  rw [hd]
  dsimp only
  split
  · rename_i y q
    rw [q] at e
    exact congrArg some e
  · rename_i q
    rw [q] at e
    have a : es.toList.any (·.refKey) = false := by
      rw [List.any_eq_false]
      intro y hy
      obtain ⟨z, t, hkey⟩ := hk y (Array.mem_toList_iff.mp hy)
      simp [DictEntry.refKey, hkey]
    have a' : ¬ es.toList.any (·.refKey) = true := by rw [a]; exact Bool.false_ne_true
    rw [if_neg a']
    exact congrArg some e
theorem ObjM.look {h : Heap} {x dx C : Addr} {mA : Str → Option Value} (I : ObjM h x dx C mA) : ∃ od, PySem.W.InstAt h x (PySem.W.instObj C dx) C (some od) ∧ ∀ name, PySem.W.lookIn name od = some (mA name) :=
  let ⟨od, ho, hl⟩ := lookIn_ns I.ns
  ⟨od, ⟨I.obj, rfl, rfl, ho⟩, hl⟩
section
variable {prog : Program} {w : World} {A : Around} {E : Value → Shared → Prop} {s : Shared} {K : PySem.W.Frag} {x dx C f : Addr} {mA : Str → Option Value} {name : Str} {v : Value}
end
theorem RelO.some_of {v : V} {o : Option Value} (r : RelO (some v) o) : ∃ u, o = some u ∧ RelV v u := by
  cases o with
  | none => exact (show False from r).elim
  | some u => exact ⟨u, rfl, r⟩
section
variable {P : Program} {w : World} {H H' : Hp} {h h' : Heap} {a C dx : Addr} {fs fs' : List (Str × V)}
theorem ins_get (hok : HOk P w H h) (e : H a = some (.ins C dx fs)) : ∃ mA, ObjM h a dx C mA ∧ (∀ f, RelO (fs.lookup f) (mA f)) ∧ PySem.Within mA (fs.map (·.1)) ∧ fs.length ≤ 1000 ∧ H dx = some (.own a) := by
  obtain ⟨d, z, ne, ob, mA, n, r, q⟩ := (show ObjOk P w H h a (.ins C dx fs) from hok a _ e)
  exact ⟨mA, ⟨ob, n, ne⟩, r, q, z, d⟩
end
structure Cls (K : PySem.W.Frag) (C : Addr) : Prop where
  pg : PySem.W.plainGet K C Str.empty = true
  hd : PySem.W.hasDictIn K C = true
  po : PySem.W.plainOver K C = true
  sa : PySem.W.findIn K (.ref C) "__setattr__" = some (some (.builtin "object.__setattr__"))
theorem Cls.get {K : PySem.W.Frag} {C : Addr} (c : Cls K C) (f : Str) : PySem.W.plainGet K C f = true := c.pg
structure Con (K : PySem.W.Frag) (C : Addr) (f : Str) (v : V) (u : Value) : Prop where
  at_ : PySem.W.findIn K (.ref C) f = some (some u)
  rel : RelV v u
  get : PySem.W.specialIn K u "__get__" = some none
  cp : PySem.W.copiedNames.contains f = false
structure Meth (K : PySem.W.Frag) (C : Addr) (m : Str) (f : Addr) : Prop where
  at_ : PySem.W.findIn K (.ref C) m = some (some (.ref f))
  fn : PySem.W.isFn K (.ref f) = true
  kp : PySem.W.keepIn K (.ref f) = true
section
variable {X : Cx} {pins : List (Addr × Obj)} {σ : St} {H : Hp} {s : Shared} {a C dx : Addr} {fs : List (Str × V)} {f : Str} {v : V} {A : Around} {E : Value → Shared → Prop}
theorem Inv.made (I : Inv X pins σ H s) : Inv X pins σ (upd (upd H s.heap.objs.size (.own (s.heap.objs.size + 1))) (s.heap.objs.size + 1) (.ins C s.heap.objs.size []))
    { s with heap := (s.heap.push PySem.W.emptyDict).push (PySem.W.instObj C s.heap.objs.size) } := by
  have e1 : (s.heap.push PySem.W.emptyDict).get? s.heap.objs.size = some PySem.W.emptyDict := Heap.get?_push_size s.heap rfl
  have e2 : ((s.heap.push PySem.W.emptyDict).push (PySem.W.instObj C s.heap.objs.size)).get? (s.heap.objs.size + 1) = some (PySem.W.instObj C s.heap.objs.size) := by
    have := Heap.get?_push_size (s.heap.push PySem.W.emptyDict) (o := PySem.W.instObj C s.heap.objs.size) rfl
    rwa [Heap.size_push] at this
  have e3 : (s.heap.push PySem.W.emptyDict).Ns s.heap.objs.size (fun _ => none) := ⟨PySem.W.emptyDict, #[], _, e1, rfl, (fun e he => absurd he (by simp)), fun _ => rfl⟩
  have I1 := I.laid (a := s.heap.objs.size) (o := .own (s.heap.objs.size + 1)) (h' := s.heap.push PySem.W.emptyDict) (t' := s.toks) (fun b u q => Heap.get?_push_of_some _ q) (Nat.le_refl _) ⟨_, e1⟩
  refine I1.laid (a := s.heap.objs.size + 1) (o := .ins C s.heap.objs.size []) (t' := s.toks) (fun b u q => Heap.get?_push_of_some _ q) (Nat.le_of_eq (Heap.size_push _ _)) ?_
  have ne : s.heap.objs.size ≠ s.heap.objs.size + 1 := Nat.ne_of_lt (Nat.lt_succ_self _)
  refine ⟨by rw [upd_ne ne, upd_same], Nat.zero_le _, ne, e2, fun _ => none, (Heap.Ns1.of_empty e3).at fun o q => Heap.get?_push_of_some _ q, fun _ => True.intro, fun y hy => absurd rfl hy⟩
end
section
variable {X : Cx} {o e value : Expr} {f : Str} {pos pos' tpos : Pos} {ta tv : TE}
end
section
variable {X : Cx} {pins : List (Addr × Obj)} {σ : St} {H : Hp} {s : Shared} {A : Around} {E : Value → Shared → Prop} {Q : Value → Shared → Prop} {c : Value} {b : Bool}
inductive TyOf (K : PySem.W.Frag) (H : Hp) : V → Value → Prop where
  | non : TyOf K H .non (.type "NoneType")
  | bl (x : Bool) : TyOf K H (.bl x) (.type "bool")
  | int (i : Int) : TyOf K H (.int i) (.type "int")
  | str (x : Str) : TyOf K H (.str x) (.type "str")
  | flt (x : UInt64) : TyOf K H (.flt x) (.type "float")
  | lst {a : Addr} {xs : List V} (e : H a = some (.lst xs)) : TyOf K H (.ref a) (.type "list")
  | frz {a : Addr} {o : Obj} {xs : List V} (e : H a = some (.frz o (.lst xs))) : TyOf K H (.ref a) (.type "list")
  | tup {a : Addr} {xs : List V} (e : H a = some (.tup xs)) : TyOf K H (.ref a) (.type "tuple")
  | dK {a : Addr} {kvs : List (Key × V)} (e : H a = some (.dK kvs)) : TyOf K H (.ref a) (.type "dict")
  | dT {a : Addr} {kvs : List (List Key × V)} (e : H a = some (.dT kvs)) : TyOf K H (.ref a) (.type "dict")
  | ins {a C dx : Addr} {fs : List (Str × V)} (e : H a = some (.ins C dx fs)) (cl : Cls K C) (ha : PySem.W.findIn K (.ref C) "__class__" = some (some (.builtin "object.__class__")))
      (hn : PySem.W.specialIn K (.builtin "object.__class__") "__get__" = some (some (.builtin "getset_descriptor.__get__"))) (htk : PySem.W.takesIn K (.builtin "object.__class__") = some true)
      (hm : PySem.W.mroIn K C (.type "object") = some true) : TyOf K H (.ref a) (.ref C)
theorem isinst_ok {x : V} {u t : Value} (I : Inv X pins σ H s) (rx : RelV x u) (ty : TyOf X.K H x t) (e : PySem.W.kitOne X.K t c = some b) (h : ∀ tk, Q (.bool b) { s with toks := tk }) :
    wpAny (model X.prog X.w) A (call (.builtin "isinstance") [u, c]) Q E s := by
  cases ty with
  | non => cases (show u = Value.none from rx); exact PySem.W.kia_one PySem.W.kitx_none I.kIn True.intro e (fun z => nomatch z) h
  | bl y => cases (show u = Value.bool y from rx); exact PySem.W.kia_one PySem.W.kitx_bool I.kIn True.intro e (fun z => nomatch z) h
  | int i => obtain ⟨t, q⟩ := (show ∃ t, u = Value.int i t from rx); cases q; exact PySem.W.kia_one PySem.W.kitx_int I.kIn True.intro e (fun z => nomatch z) h
  | str y => obtain ⟨t, q⟩ := (show ∃ t, u = Value.str y t from rx); cases q; exact PySem.W.kia_one PySem.W.kitx_str I.kIn True.intro e (fun z => nomatch z) h
  | flt y => obtain ⟨t, q⟩ := (show ∃ t, u = Value.float y t from rx); cases q; exact PySem.W.kia_one PySem.W.kitx_float I.kIn True.intro e (fun z => nomatch z) h
  | @lst a xs ea =>
    cases (show u = Value.ref a from rx)
    obtain ⟨_, _, n, _, h1⟩ := (show ObjOk X.prog X.w H s.heap a (.lst xs) from I.hok a _ ea)
    exact PySem.W.kia_one PySem.W.kitx_list I.kIn ⟨_, h1, rfl⟩ e (fun z => nomatch z) h
  | @frz a ob xs ea =>
    cases (show u = Value.ref a from rx)
    obtain ⟨_, _, _, n, _, h1⟩ := (show ObjOk X.prog X.w H s.heap a (.frz ob (.lst xs)) from I.hok a _ ea)
    exact PySem.W.kia_one PySem.W.kitx_list I.kIn ⟨_, h1, rfl⟩ e (fun z => nomatch z) h
  | @tup a xs ea =>
    cases (show u = Value.ref a from rx)
    obtain ⟨_, _, _, p⟩ := (show ObjOk X.prog X.w H s.heap a (.tup xs) from I.hok a _ ea)
    obtain ⟨o, h1, h2, _⟩ := p
    exact PySem.W.kia_one PySem.W.kitx_tuple I.kIn ⟨o, h1, h2⟩ e (fun z => nomatch z) h
  | @dK a kvs ea =>
    cases (show u = Value.ref a from rx)
    obtain ⟨_, _, vs, _, p⟩ := (show ObjOk X.prog X.w H s.heap a (.dK kvs) from I.hok a _ ea)
    obtain ⟨o, es, ep, h1, h2, _⟩ := p
    exact PySem.W.kia_one PySem.W.kitx_dict I.kIn ⟨o, h1, h2.1⟩ e (fun z => nomatch z) h
  | @dT a kvs ea =>
    cases (show u = Value.ref a from rx)
    obtain ⟨_, _, xs, _, o, es, ep, h1, h2, _⟩ := (show ObjOk X.prog X.w H s.heap a (.dT kvs) from I.hok a _ ea)
    exact PySem.W.kia_one PySem.W.kitx_dict I.kIn ⟨o, h1, h2.1⟩ e (fun z => nomatch z) h
  | @ins a C dx fs ea cl ha hn htk hm =>
    cases (show u = Value.ref a from rx)
    obtain ⟨mA, O, _⟩ := ins_get I.hok ea
    obtain ⟨od, J, _⟩ := O.look
    exact PySem.W.kia_one (PySem.W.kitx_own (cl.get _) cl.hd ha hn htk hm) I.kIn J e (fun z => nomatch z) h
end
end L2
namespace L2
open PySem PySem.Spec PyProof.Rows
structure Room (k : Nat) (A : Around) : Prop where
  hd : A.handled = none
  dp : A.depth + 3 * k + 5 < recursionLimit
  un : A.units + 16 * k + 200 < cLine
theorem Room.mono {j k : Nat} {A : Around} (r : Room k A) (h : j ≤ k) : Room j A := ⟨r.hd, by have := r.dp; omega, by have := r.un; omega⟩
theorem Room.deeper {k : Nat} {A : Around} (r : Room (k + 1) A) (env : Env) : Room k (A.deeper env) :=
  ⟨r.hd, by have := r.dp; show A.depth + 1 + 3 * k + 5 < _; omega, by have := r.un; show A.units + 3 + 16 * k + 200 < _; omega⟩
theorem Room.in1 {k : Nat} {A : Around} (r : Room (k + 1) A) : Room k A.in1 :=
  ⟨r.hd, by have := r.dp; show A.depth + 3 * k + 5 < _; omega, by have := r.un; show A.units + 1 + 16 * k + 200 < _; omega⟩
theorem Room.depth {k : Nat} {A : Around} (r : Room k A) : A.depth < recursionLimit := by have := r.dp; omega
theorem Room.units {k : Nat} {A : Around} (r : Room k A) : A.units + 64 < cLine := by have := r.un; omega
def tNil : TA := fun _ H Q => Q [] H
def tCons (ta : TE) (tr : TA) : TA := fun σ H Q => ta σ H fun x H1 => tr σ H1 fun xs H2 => Q (x :: xs) H2
section
variable {X : Cx} {e : Expr} {es : List Expr} {te : TE} {t : TA} {pos : Pos}
theorem pa_nil : PA X [] tNil := fun _ _ _ _ H Q I h => Calls.spliced_nil ⟨[], H, I, .nil, h⟩
theorem pa_cons (ha : PE X e te) (hr : PA X es t) (hs : starEach (e :: es) X.env = (false, eval e X.env) :: starEach es X.env := by rfl) : PA X (e :: es) (tCons te t) := by
  intro pos pins s σ H Q I h
  rw [hs]
  show wpAny _ _ (spliced ((false, eval e X.env) :: backTo pos (starEach es X.env))) _ _ s
  refine Calls.spliced_cons (thn (ha pins s σ H _ I h) fun u s1 ⟨x, H1, I1, r1, q1⟩ => ?_)
  exact thn (hr pos pins s1 σ H1 _ I1 q1) fun us s2 ⟨xs, H2, I2, r2, q2⟩ => ⟨x :: xs, H2, I2, .cons r1 r2, q2⟩
def tTup (t : TA) : TE := fun σ H Q => t σ H fun xs H1 => xs.length ≤ sizeLine ∧ ∀ p, H1 p = none → Q (.ref p) (upd H1 p (.tup xs))
def tLst (t : TA) : TE := fun σ H Q => t σ H fun xs H1 => xs.length ≤ sizeLine ∧ ∀ p, H1 p = none → Q (.ref p) (upd H1 p (.lst xs))
theorem pe_tup {x1} (h : PA X es t) : PE X (.Tuple es x1 pos) (tTup t) := by
  intro pins s σ H Q I hq
  refine wpAny_Tuple_spliced (thn (h pos pins s σ H _ I hq) fun us s1 ⟨xs, H1, I1, r, z, q⟩ => ⟨by rw [← r.length]; exact z, ?_⟩)
  have hf : H1 s1.heap.objs.size = none := I1.hok.fresh (Nat.le_refl _)
  refine ⟨.ref s1.heap.objs.size, upd H1 s1.heap.objs.size (.tup xs), I1.laid (t' := s1.toks) (fun b u e => Heap.get?_push_of_some _ e) (Nat.le_refl _) ?_, rfl, q _ hf⟩
  exact ⟨z, us, r, ⟨_, Heap.get?_push_size _ rfl, rfl, _, rfl⟩⟩
theorem pe_lst (h : PA X es t) : PE X (.List es pos) (tLst t) := by
  intro pins s σ H Q I hq
  refine wpAny_List_spliced (thn (h pos pins s σ H _ I hq) fun us s1 ⟨xs, H1, I1, r, z, q⟩ => ⟨by rw [← r.length]; exact z, ?_⟩)
  have hf : H1 s1.heap.objs.size = none := I1.hok.fresh (Nat.le_refl _)
  refine ⟨.ref s1.heap.objs.size, upd H1 s1.heap.objs.size (.lst xs), I1.laid (t' := s1.toks) (fun b u e => Heap.get?_push_of_some _ e) (Nat.le_refl _) ?_, rfl, q _ hf⟩
  exact ⟨z, us, 0, r, Heap.get?_push_size _ rfl⟩
end
abbrev Sp := List V → Hp → VK → XK → Prop
abbrev CXT := List Env → Hp → Shared → XK → Value → Shared → Prop
structure Env0 (P : Program) (w : World) (K : PySem.W.Frag) (mg : Str → Option Value) (base : Heap) (A : Around) (outer : List Env) (s : Shared) (H : Hp) : Prop where
  frames : A.frames = some outer
  mod : Mod K mg base
  bs : ∀ b o, base.get? b = some o → s.heap.get? b = some o ∧ H b = none
  bsz : base.objs.size ≤ s.heap.objs.size
  funs : s.heap.FunFrames base outer
  frf : ∀ b ∈ frs outer, H b = none
  hok : HOk P w H s.heap
  bare : AllBare s.gens
def CE (outer : List Env) (P : Program) (w : World) (H : Hp) (s : Shared) (Q : VK) (u : Value) (s' : Shared) : Prop :=
  ∃ v H', s'.os = s.os ∧ AllBare s'.gens ∧ Un (frs outer) [] H H' s.heap s'.heap ∧ HOk P w H' s'.heap ∧ RelV v u ∧ Q v H'
def CR (CX : CXT) (outer : List Env) (P : Program) (w : World) (H : Hp) (s : Shared) (Q : VK) (E : XK) (r : Result) (s' : Shared) : Prop :=
  match r with
  | .ok (.ret u) => CE outer P w H s Q u s'
  | .ok _ => False
  | .error e => CX outer H s E e s'
structure FnOk (P : Program) (w : World) (K : PySem.W.Frag) (mg : Str → Option Value) (base : Heap) (CX : CXT) (k : Nat) (f : Addr) (fd : FuncData) (ps : List Str) (sp : Sp) : Prop where
  len : ∀ vs H Q E, sp vs H Q E → vs.length = ps.length
  run : ∀ (A : Around) (outer : List Env) (s : Shared) (H : Hp) (args : Args) (us : List Value) (vs : List V) (Q : VK) (E : XK), Room k A → Env0 P w K mg base A outer s H → BindsTo s fd args (ps.zip us) → Vals vs us → sp vs H Q E →
    codeAny (model P w) A (.call (.ref f) args) (CR CX outer P w H s Q E) s
theorem FnOk.mono {P : Program} {w : World} {K : PySem.W.Frag} {mg : Str → Option Value} {base : Heap} {CX : CXT} {j k : Nat} {f : Addr} {fd : FuncData} {ps : List Str} {sp : Sp} (F : FnOk P w K mg base CX j f fd ps sp) (h : j ≤ k) :
    FnOk P w K mg base CX k f fd ps sp := ⟨F.len, fun A outer s H args us vs Q E hr => F.run A outer s H args us vs Q E (hr.mono h)⟩
theorem FnOk.imp {P : Program} {w : World} {K : PySem.W.Frag} {mg : Str → Option Value} {base : Heap} {CX : CXT} {k : Nat} {f : Addr} {fd : FuncData} {ps : List Str} {sp sp' : Sp} (F : FnOk P w K mg base CX k f fd ps sp)
    (h : ∀ vs H Q E, sp' vs H Q E → sp vs H Q E) : FnOk P w K mg base CX k f fd ps sp' :=
  ⟨fun vs H Q E q => F.len vs H Q E (h _ _ _ _ q), fun A outer s H args us vs Q E hr he hb hv hs => F.run A outer s H args us vs Q E hr he hb hv (h _ _ _ _ hs)⟩
theorem Env0.in1 {P : Program} {w : World} {K : PySem.W.Frag} {mg : Str → Option Value} {base : Heap} {A : Around} {outer : List Env} {s : Shared} {H : Hp} (e : Env0 P w K mg base A outer s H) :
    Env0 P w K mg base A.in1 outer s H := ⟨e.frames, e.mod, e.bs, e.bsz, e.funs, e.frf, e.hok, e.bare⟩
section
variable {X : Cx} {pins : List (Addr × Obj)} {σ : St} {H : Hp} {s s' : Shared}
theorem Inv.env0 (I : Inv X pins σ H s) : Env0 X.prog X.w X.K X.mg X.base X.A X.stack s H :=
  ⟨I.ok.frames, I.ok.mod, I.bs, Nat.le_trans I.ok.bsz I.sz, I.stack, I.stkFree, I.hok, I.bare⟩
theorem Inv.after {Q : VK} {u : Value} (I : Inv X pins σ H s) (h : CE X.stack X.prog X.w H s Q u s') : EP X pins σ Q u s' := by
  obtain ⟨v, H', os, bare, un, hok, r, q⟩ := h
  obtain ⟨hh, g, d, t, os'⟩ := s'
  obtain rfl : os' = s.os := os
  exact ⟨v, H', I.call (h' := hh) (g' := g) (d' := d) (t' := t) (ch := []) un hok bare (fun b z => absurd z (by simp)), r, q⟩
end
def tCall (sp : Sp) (dvs : List V) (E : XK) (t : TA) : TE := fun σ H Q => t σ H fun vs H1 => sp (vs ++ dvs) H1 Q E
def Binds (K : PySem.W.Frag) (fd : FuncData) (ps : List Str) (ds : List Value) : Prop :=
  ∀ (s : Shared) (us : List Value), K.In s.heap → (us ++ ds).length = ps.length → BindsTo s fd ⟨us, []⟩ (ps.zip (us ++ ds))
theorem Binds.all {K : PySem.W.Frag} {fd : FuncData} {ps : List Str} (h : ∀ us : List Value, us.length = ps.length → bindArgs fd ⟨us, []⟩ = pure (ps.zip us)) : Binds K fd ps [] := fun s us _ hl => by
  rw [List.append_nil] at hl ⊢
  exact .of_eq (h us hl)
def Passes (CX : CXT) (X : Cx) (E : XK) : Prop := ∀ (pins : List (Addr × Obj)) (σ : St) (H : Hp) (s : Shared) (e : Value) (s' : Shared), Inv X pins σ H s → CX X.stack H s E e s' → X.xe e s'
section
variable {X : Cx} {CX : CXT} {k : Nat} {f C : Addr} {fd : FuncData} {ps : List Str} {sp : Sp} {dvs : List V} {ds : List Value} {E : XK} {x m : Str} {p pos apos : Pos} {e o : Expr} {es : List Expr} {ta : TE} {t : TA}
theorem run_fn {pins : List (Addr × Obj)} {σ : St} {H : Hp} {s : Shared} {Q : VK} {us : List Value} {vs : List V} (F : FnOk X.prog X.w X.K X.mg X.base CX k f fd ps sp) (hr : Room k X.A) (hb : Binds X.K fd ps ds) (hd : Vals dvs ds) (hx : Passes CX X E)
    (I : Inv X pins σ H s) (r : Vals vs us) (h : sp (vs ++ dvs) H Q E) : wpAny (model X.prog X.w) X.A (call (.ref f) us) (EP X pins σ Q) X.xe s := by
  have r2 : Vals (vs ++ dvs) (us ++ ds) := r.append hd
  have hl : (us ++ ds).length = ps.length := by rw [← r2.length]; exact F.len _ _ _ _ h
  refine wpAny_call (codeAny_mono (F.run X.A X.stack s H ⟨us, []⟩ (us ++ ds) (vs ++ dvs) Q E hr I.env0 (hb s us I.kIn hl) r2 h) fun r s' hq => ?_)
  cases r with
  | error e => exact hx pins σ H s e s' I hq
  | ok fl =>
    cases fl with
    | ret u => exact I.after hq
    | next => exact False.elim hq
    | brk => exact False.elim hq
    | cont => exact False.elim hq
theorem pe_call (F : FnOk X.prog X.w X.K X.mg X.base CX k f fd ps sp) (hr : Room k X.A) (hg : Gl X x) (hm : X.mg x = some (.ref f)) (hk : PySem.W.keepIn X.K (.ref f) = true) (hb : Binds X.K fd ps ds) (hd : Vals dvs ds) (hx : Passes CX X E)
    (ha : PA X (e :: es) t) (hdb : (x == ("__debug__" : Str)) = false := by decide) (he : starEach (e :: es) X.env = (false, eval e X.env) :: starEach es X.env := by rfl) (hpl : (backTo pos (starEach es X.env)).any (·.1) = false := by rfl) :
    PE X (.Call (.Name x p) (e :: es) [] pos) (tCall sp dvs E t) := by
  intro pins s σ H Q I h
  refine wpAny_Call_Name_kw (ld_glob I hg hm ?_ hdb)
  refine PySem.W.callWith_K (h₀ := X.base) I.ok.mod.kin hk (thn (ha pos pins s σ H _ I h) fun us s1 ⟨vs, H1, I1, r, q⟩ => ⟨I1.kIn, ?_⟩) he hpl
  exact run_fn F hr hb hd hx I1 r q
structure Mk (K : PySem.W.Frag) (C f : Addr) : Prop where
  makes : PySem.W.makesIn K C = true
  init : PySem.W.findIn K (.ref C) "__init__" = some (some (.ref f))
  fn : PySem.W.isFn K (.ref f) = true
  kp : PySem.W.keepIn K (.ref C) = true
end
section
variable {X : Cx} {CX : CXT} {k : Nat} {f C : Addr} {fd : FuncData} {ps ks : List Str} {sp : Sp} {E : XK} {x m : Str} {p pos apos kpos : Pos} {e o : Expr} {es : List Expr} {kws : List Keyword} {te ta : TE} {t tk : TA} {nm : Option Str}
structure KBinds (K : PySem.W.Frag) (fd : FuncData) (ps ks : List Str) (g : List Value → List Value → List Value) (gV : List V → List V → List V) : Prop where
  to : ∀ (s : Shared) (us ws : List Value), K.In s.heap → (g us ws).length = ps.length → BindsTo s fd ⟨us, ks.zip ws⟩ (ps.zip (g us ws))
  rel : ∀ {vs : List V} {us : List Value} {zs : List V} {ws : List Value}, Vals vs us → Vals zs ws → Vals (gV vs zs) (g us ws)
variable {g : List Value → List Value → List Value} {gV : List V → List V → List V}
end
structure FnScope (N P : List Str) (sc : Scope) : Prop where
  kind : sc.kind = .function
  co : sc.isCoroutine = false
  gen : sc.isGenerator = false
  nd : N.Nodup
  pre : N.take P.length = P
  par : ∀ x ∈ P, sc.names.lookup x = some .local ∨ sc.names.lookup x = some .cell
  nofree : ∀ y ∈ sc.names, y.2 ≠ .free
theorem bindL_out {kindOf : Str → Option NameKind} {x : Str} : ∀ {binds : List (Str × Value)} {m : Str → Option Value}, (∀ v, (x, v) ∉ binds) → bindL kindOf binds m x = m x
  | [], _, _ => rfl
  | (n, v) :: r, m, h => by
    unfold bindL
    rw [bindL_out fun w hw => h w (List.mem_cons_of_mem _ hw)]
    split
    · have : x ≠ n := by rintro rfl; exact h v List.mem_cons_self
      simp [this]
    · rfl
theorem bindC_out {kindOf : Str → Option NameKind} {x : Str} : ∀ {binds : List (Str × Value)} {m : Str → Option Value}, (∀ v, (x, v) ∉ binds) → bindC kindOf binds m x = m x
  | [], _, _ => rfl
  | (n, v) :: r, m, h => by
    unfold bindC
    rw [bindC_out fun w hw => h w (List.mem_cons_of_mem _ hw)]
    split
    · rfl
    · have : x ≠ n := by rintro rfl; exact h v List.mem_cons_self
      simp [this]
theorem bindL_get {kindOf : Str → Option NameKind} {x : Str} {v : Value} : ∀ {P : List Str} {vs : List Value} {i : Nat} {m : Str → Option Value}, P.Nodup → P[i]? = some x → vs[i]? = some v → kindOf x = some .local →
    bindL kindOf (P.zip vs) m x = some v
  | [], _, _, _, _, h, _, _ => by simp at h
  | _ :: _, [], _, _, _, _, h, _ => by simp at h
  | p :: P, w :: vs, 0, m, nd, h1, h2, hk => by
    simp at h1 h2; subst h1; subst h2
    show bindL kindOf ((p, w) :: P.zip vs) m p = _
    unfold bindL
    rw [bindL_out fun v hv => (List.nodup_cons.mp nd).1 (List.of_mem_zip hv).1, if_pos hk]
    simp
  | p :: P, w :: vs, i + 1, m, nd, h1, h2, hk => by
    show bindL kindOf ((p, w) :: P.zip vs) m x = _
    unfold bindL
    exact bindL_get (i := i) (List.nodup_cons.mp nd).2 (by simpa using h1) (by simpa using h2) hk
theorem bindC_get {kindOf : Str → Option NameKind} {x : Str} {v : Value} : ∀ {P : List Str} {vs : List Value} {i : Nat} {m : Str → Option Value}, P.Nodup → P[i]? = some x → vs[i]? = some v → kindOf x ≠ some .local →
    bindC kindOf (P.zip vs) m x = some v
  | [], _, _, _, _, h, _, _ => by simp at h
  | _ :: _, [], _, _, _, _, h, _ => by simp at h
  | p :: P, w :: vs, 0, m, nd, h1, h2, hk => by
    simp at h1 h2; subst h1; subst h2
    show bindC kindOf ((p, w) :: P.zip vs) m p = _
    unfold bindC
    rw [bindC_out fun v hv => (List.nodup_cons.mp nd).1 (List.of_mem_zip hv).1, if_neg hk]
    simp
  | p :: P, w :: vs, i + 1, m, nd, h1, h2, hk => by
    show bindC kindOf ((p, w) :: P.zip vs) m x = _
    unfold bindC
    exact bindC_get (i := i) (List.nodup_cons.mp nd).2 (by simpa using h1) (by simpa using h2) hk
def start (N : List Str) (vs : List V) : St := vs.map some ++ List.replicate (N.length - vs.length) none
def cxOf (CX : CXT) (P : Program) (w : World) (K : PySem.W.Frag) (mg : Str → Option Value) (base : Heap) (N : List Str) (qual : Str) (scope : Scope) (f : Addr) (cd : Value) (A : Around) (outer : List Env) (s : Shared) (H : Hp) (E : XK) : Cx where
  prog := P
  w := w
  K := K
  mg := mg
  base := base
  A := A.deeper (envOfC qual scope s.heap.objs.size f cd)
  N := N
  s₀ := s
  H₀ := H
  env := envOfC qual scope s.heap.objs.size f cd
  outer := outer
  stack := envOfC qual scope s.heap.objs.size f cd :: outer
  ex := []
  calm := true
  fn := fun _ => true
  pn := []
  xe := fun e s' => wpAny (model P w) (A.deeper (envOfC qual scope s.heap.objs.size f cd)) (leaving (envOfC qual scope s.heap.objs.size f cd) e) (fun _ s'' => CX outer H s E e s'') (fun e' s'' => CX outer H s E e' s'') s'
theorem cell_has {sc : Scope} {n : Nat} {x : Str} (h : sc.names.lookup x = some .cell) : ∃ c, (cellsFrom n sc.names []).lookup x = some c := by
  have q := PySem.W.cellsFrom_some sc.names n [] (.inl h)
  exact Option.isSome_iff_exists.mp q
theorem inv_start {CX : CXT} {P : Program} {w : World} {K : PySem.W.Frag} {mg : Str → Option Value} {base : Heap} {N ps : List Str} {qual : Str} {scope : Scope} {f : Addr} {cd : Value} {A : Around} {outer : List Env} {s s1 : Shared} {H : Hp} {E : XK} {us : List Value} {vs : List V}
    (S : FnScope N ps scope) (hd : A.handled = none) (e0 : Env0 P w K mg base A outer s H) (hl : vs.length = ps.length) (r : Vals vs us)
    (x : InCallC s s.heap.objs.size (bindL (envOfC qual scope s.heap.objs.size f cd).kindOf (ps.zip us) fun _ => none) (cellsFrom (s.heap.objs.size + 1) scope.names []) (bindC (envOfC qual scope s.heap.objs.size f cd).kindOf (ps.zip us) fun _ => none) s1) :
    Inv (cxOf CX P w K mg base N qual scope f cd A outer s H E) [] (start N vs) H s1 := by
  have hpl : ps.length ≤ N.length := by have := congrArg List.length S.pre; rw [List.length_take] at this; omega
  obtain ⟨h1, tk, rfl, hk⟩ := x.done
  have noA : ∀ b : Addr, b ∉ (cxOf CX P w K mg base N qual scope f cd A outer s H E).ex := fun b z => absurd (show b ∈ ([] : List Addr) from z) (by simp)
  refine ⟨⟨e0.mod, S.kind, rfl, rfl, Nat.le_refl _, fun y z c h1 h2 => ?_, fun y hy => ?_, fun y c _ h => ?_, fun _ => hd, Around.frames_deeper e0.frames, .inr ⟨rfl, rfl⟩, fun b z => absurd z (noA b), e0.bs, e0.bsz, fun b _ _ => noA b, fun b z => absurd z (noA b), e0.funs, e0.frf⟩,
    rfl, e0.bare, Un.kept hk, ⟨_, x.toInCall.ns, fun i y v h1 h2 h3 => ?_⟩, fun y c h => ⟨_, x.cell y c h⟩, e0.hok.fresh (Nat.le_refl _), fun y c h => ?_, fun p hp => absurd (show p ∈ ([] : List (Addr × Obj)) from hp) (by simp), e0.hok.kept hk, ?_⟩
  · exact name_of_addr x.apart (PySem.mem_of_lookup h1) (PySem.mem_of_lookup h2)
  · have hy : scope.names.lookup y = some .cell ∨ scope.names.lookup y = some .free := hy
    rcases hy with hy | hy
    · exact cell_has hy
    · exact absurd rfl (S.nofree _ (PySem.mem_of_lookup hy))
  · exact Nat.le_of_lt (x.above y c (PySem.mem_of_lookup h))
  · have hi : i < vs.length := by
      unfold start at h2
      by_cases hi : i < vs.length
      · exact hi
      · rw [List.getElem?_append_right (by simpa using hi)] at h2
        rw [List.getElem?_replicate] at h2
        split at h2 <;> cases h2
    have ha : vs[i]? = some v := by
      unfold start at h2
      rw [List.getElem?_append_left (by simpa using hi), List.getElem?_map] at h2
      cases e : vs[i]? with
      | none => rw [e] at h2; cases h2
      | some a => rw [e] at h2; cases h2; rfl
    obtain ⟨u, hu, rv⟩ := r.get ha
    have hp : ps[i]? = some y := by
      rw [← S.pre, List.getElem?_take_of_lt (by omega)]; exact h1
    have ndP : ps.Nodup := by rw [← S.pre]; exact S.nd.sublist (List.take_sublist _ _)
    refine ⟨u, rv, ?_⟩
    rcases S.par y (List.mem_of_getElem? hp) with k | k
    · exact .inl ⟨k, bindL_get ndP hp hu k⟩
    · obtain ⟨c, e⟩ := cell_has (n := s.heap.objs.size + 1) k
      refine .inr ⟨.inl k, c, e, ?_⟩
      have q := x.cell y c e
      rw [bindC_get ndP hp hu (by show scope.names.lookup y ≠ _; rw [k]; decide)] at q
      exact q
  · exact e0.hok.fresh (Nat.le_of_lt (x.above y c (PySem.mem_of_lookup h)))
  · unfold start
    show _ = N.length
    rw [List.length_append, List.length_map, List.length_replicate]
    omega
theorem fn_of {CX : CXT} {P : Program} {w : World} {K : PySem.W.Frag} {mg : Str → Option Value} {base : Heap} {k : Nat} {f : Addr} {name qual : Str} {params : Arguments} {body : List Stmt} {scope : Scope} {dV kV doc pm cdv ct oc : Value} {an od : Option Addr}
    {osl : Array (Option Value)} {N ps : List Str} {sp : Sp} (lk : K.lookup f = some ⟨oc, od, .func (PySem.W.fnOf name qual params body scope dV kV doc pm an cdv ct), osl⟩) (hcd : PySem.W.codeIn K cdv qual = true) (S : FnScope N ps scope)
    (len : ∀ vs H Q E, sp vs H Q E → vs.length = ps.length)
    (hbody : ∀ (A : Around) (outer : List Env) (s : Shared) (H : Hp) (vs : List V) (Q : VK) (E : XK), Room k (A.deeper (envOfC qual scope s.heap.objs.size f cdv)) → sp vs H Q E →
      ∃ t, PSs (cxOf CX P w K mg base N qual scope f cdv A outer s H E) body t ∧ t { nx := fun _ H' => Q .non H', rt := Q } (start N vs) H) :
    FnOk P w K mg base CX (k + 1) f (PySem.W.fnOf name qual params body scope dV kV doc pm an cdv ct) ps sp := by
  refine ⟨len, fun A outer s H args us vs Q E hr e0 hb r hsp => ?_⟩
  have hl := len _ _ _ _ hsp
  have KX : K.In s.heap := e0.mod.kin.keeps fun b o e => (e0.bs b o e).1
  have lim : s.heap.NoLimit := e0.mod.nolimit.keeps fun b o e => (e0.bs b o e).1
  have hkind : ∀ y ∈ ps.zip us, scope.names.lookup y.1 = some .local ∨ (scope.names.lookup y.1 = some .cell ∧ ((cellsFrom (s.heap.objs.size + 1) scope.names []).lookup y.1).isSome = true) := fun ⟨n, v⟩ hy => by
    rcases S.par n (List.of_mem_zip hy).1 with q | q
    · exact .inl q
    · exact .inr ⟨q, PySem.W.cellsFrom_some _ _ _ (.inl q)⟩
  refine codeAny_call_function hr.depth (KX _ _ lk) rfl S.co S.gen rfl (PySem.W.codeRec_of KX hcd) (hb _ _ _ _ ?_)
  refine wpAny_newFunctionEnv_cells S.kind hkind fun env he s1 x => ?_
  subst he
  refine ⟨lim.keeps x.toInCall.keep, codeAny_func ?_⟩
  obtain ⟨t, ht, hq⟩ := hbody A outer s H vs Q E (hr.deeper _) hsp
  have I : Inv (cxOf CX P w K mg base N qual scope f cdv A outer s H E) [] (start N vs) H s1 := inv_start S hr.hd e0 hl r x
  refine wpAny_mono (ht [] s1 (start N vs) H _ I hq) (fun fl s' hs => ?_) fun e s' hs => hs
  have fin : ∀ {σ' : St} {H' : Hp} {v : V} {u : Value}, Inv (cxOf CX P w K mg base N qual scope f cdv A outer s H E) [] σ' H' s' → RelV v u → Q v H' → CE outer P w H s Q u s' :=
    fun {σ' H' v u} J rv q => ⟨v, H', J.os, J.bare, J.base, J.hok, rv, q⟩
  cases fl with
  | ret u =>
    obtain ⟨v, σ', H', J, rv, q⟩ := hs
    exact fin J rv q
  | next =>
    obtain ⟨σ', H', J, q⟩ := hs
    exact fin (v := V.non) (u := Value.none) J rfl q
  | brk =>
    obtain ⟨_, _, _, q⟩ := hs
    exact False.elim q
  | cont =>
    obtain ⟨_, _, _, q⟩ := hs
    exact False.elim q
end L2
namespace L2
open PySem PySem.Spec PyProof.Rows
section
variable {X : Cx} {x : Str} {p pos : Pos} {e : Expr} {es : List Expr} {t : TA} {id T : String} {r : List V → Hp → VK → Prop}
def tCB (r : List V → Hp → VK → Prop) (t : TA) : TE := fun σ H Q => t σ H fun vs H1 => r vs H1 Q
theorem pe_callB (hc : CallR X (.builtin id) r) (hg : Gl X x) (hm : X.mg x = none) (hv : bootBuiltins x = some (.builtin id)) (ha : PA X (e :: es) t) (hn : x ≠ "__name__" := by decide) (hdb : (x == ("__debug__" : Str)) = false := by decide)
    (he : starEach (e :: es) X.env = (false, eval e X.env) :: starEach es X.env := by rfl) (hpl : (backTo pos (starEach es X.env)).any (·.1) = false := by rfl) : PE X (.Call (.Name x p) (e :: es) [] pos) (tCB r t) := by
  intro pins s σ H Q I h
  refine wpAny_Call_Name_kw (ld_blt I hg hm hv ?_ hn hdb)
  exact PyProof.Rows.callWith_builtin1 (thn (ha pos pins s σ H _ I h) fun us s1 ⟨vs, H1, I1, r1, q1⟩ => hc pins s1 σ H1 vs us Q I1 r1 q1) he hpl
theorem pe_callTy (hc : CallR X (.type T) r) (hg : Gl X x) (hm : X.mg x = none) (hv : bootBuiltins x = some (.type T)) (ha : PA X (e :: es) t) (hn : x ≠ "__name__" := by decide) (hdb : (x == ("__debug__" : Str)) = false := by decide)
    (he : starEach (e :: es) X.env = (false, eval e X.env) :: starEach es X.env := by rfl) (hpl : (backTo pos (starEach es X.env)).any (·.1) = false := by rfl) : PE X (.Call (.Name x p) (e :: es) [] pos) (tCB r t) := by
  intro pins s σ H Q I h
  refine wpAny_Call_Name_kw (ld_blt I hg hm hv ?_ hn hdb)
  exact PyProof.Rows.callWith_type1 (thn (ha pos pins s σ H _ I h) fun us s1 ⟨vs, H1, I1, r1, q1⟩ => hc pins s1 σ H1 vs us Q I1 r1 q1) he hpl
end
end L2
namespace HT
open PySem PyProof.Rows
section
open PySem.SeqAt
open PySem.AutoSeq1 (wpAny_loadPart')
open PySem.MeetsSeq PySem.MeetsSeq2 PySem.MeetsSeq3
end
section
variable {prog : Program} {w : World} {A : Around} {E : Value → Shared → Prop} {s : Shared}
def sIx (n d : Nat) : Option Int → Nat
  | none => d
  | some v => if v < 0 then (v + (n : Int)).toNat else min v.toNat n
theorem sIx_none (n d : Nat) : sIx n d none = d := rfl
theorem sIx_nat (n d k : Nat) : sIx n d (some (k : Int)) = min k n := by
  show (if (k : Int) < 0 then ((k : Int) + (n : Int)).toNat else min (k : Int).toNat n) = min k n
  rw [if_neg (by omega), Int.toNat_natCast]
theorem sIx_le (n d : Nat) (hd : d ≤ n) (o : Option Int) : sIx n d o ≤ n := by
  cases o with
  | none => exact hd
  | some v =>
    show (if v < 0 then (v + (n : Int)).toNat else min v.toNat n) ≤ n
    by_cases hv : v < 0
    · rw [if_pos hv]; omega
    · rw [if_neg hv]; exact Nat.min_le_right _ _
theorem clip_eq (v : Int) (n d : Nat) : (if v < 0 then max (v + (n : Int)) 0 else min v (n : Int)) = ((sIx n d (some v) : Nat) : Int) := by
  show (if v < 0 then max (v + (n : Int)) 0 else min v (n : Int)) = (((if v < 0 then (v + (n : Int)).toNat else min v.toNat n) : Nat) : Int)
  by_cases hv : v < 0
  · simp only [if_pos hv]; omega
  · simp only [if_neg hv]; omega
theorem adjust_gen (lo hi : Option Int) (n : Nat) : Builtin.Slice.sliceAdjust lo hi 1 (n : Int) = (((sIx n 0 lo : Nat) : Int), ((sIx n n hi : Nat) : Int)) := by
  have h1 : ¬ ((1 : Int) < 0) := by omega
  unfold Builtin.Slice.sliceAdjust
  simp only [h1, if_false]
  refine Prod.ext ?_ ?_
  · cases lo with
    | none => rfl
    | some v => exact clip_eq v n 0
  · cases hi with
    | none => rfl
    | some v => exact clip_eq v n n
theorem places_gen (i j : Nat) : Builtin.Slice.slicePlaces (i : Int) (j : Int) 1 = j - i := by
  unfold Builtin.Slice.slicePlaces
  have h1 : (1 : Int) > 0 := by omega
  simp only [h1, if_true, Int.ediv_one]
  split <;> omega
theorem slicePart_ {v : Value} {o : Option Int} {Q : Option Int → Shared → Prop} (p : IsPart v o) (h : Q o s) : wpAny (model prog w) A (Builtin.Slice.slicePartIndex v) Q E s := by
  cases p with
  | none => exact slicePart_none h
  | int i t => exact slicePart_int h
theorem sliceApplied_gen {sl : Addr} {vl vu : Value} {lo hi : Option Int} {n : Nat} {Q : Int × Int × Nat → Shared → Prop} (hs : s.heap.IsSliceOf sl vl vu .none) (pl : IsPart vl lo) (pu : IsPart vu hi)
    (h : Q (((sIx n 0 lo : Nat) : Int), 1, sIx n n hi - sIx n 0 lo) s) : wpAny (model prog w) A (Builtin.Slice.sliceApplied (.ref sl) (pure (n : Int))) Q E s := by
  obtain ⟨os, hos, hcs, hds⟩ := id hs
  unfold Builtin.Slice.sliceApplied Builtin.Slice.sliceFields
  refine wpAny_bind (wpAny_bind (wpAny_field hos hds (x := vl) rfl (wpAny_bind (wpAny_field hos hds (x := vu) rfl (wpAny_bind (wpAny_field hos hds (x := .none) rfl (wpAny_pure ?_)))))))
  refine wpAny_bind (slicePart_none ?_)
  show wpAny _ _ (if ((1 : Int) == 0) = true then _ else _) _ _ s
  rw [if_neg (by decide)]
  refine wpAny_bind (slicePart_ pl (wpAny_bind (slicePart_ pu (wpAny_bind (wpAny_pure ?_)))))
  show wpAny _ _ (match Builtin.Slice.sliceAdjust lo hi 1 (n : Int) with | (lo, hi) => pure (lo, (1 : Int), Builtin.Slice.slicePlaces lo hi 1)) _ _ s
  rw [adjust_gen lo hi n]
  show wpAny _ _ (pure (((sIx n 0 lo : Nat) : Int), (1 : Int), Builtin.Slice.slicePlaces ((sIx n 0 lo : Nat) : Int) ((sIx n n hi : Nat) : Int) 1)) _ _ s
  rw [places_gen]
  exact wpAny_pure h
theorem pick_gen (xs : Array Value) (i k : Nat) : ((List.range k).filterMap fun (m : Nat) => xs[((i : Int) + (m : Int) * 1).toNat]?).toArray = ((xs.toList.drop i).take k).toArray := by
  have e : (fun (m : Nat) => xs[((i : Int) + (m : Int) * 1).toNat]?) = fun m => xs[i + m]? := by
    funext m
    have : ((i : Int) + (m : Int) * 1).toNat = i + m := by omega
    rw [this]
  rw [e]
  have := pick_run xs i k
  rw [List.filterMap_map] at this
  have e2 : ((fun x => xs[x]?) ∘ fun x => i + x) = fun m => xs[i + m]? := rfl
  rw [e2] at this
  rw [this]
theorem getItem_tuple_cut {t sl : Addr} {items : Array Value} {vl vu : Value} {lo hi : Option Int} {Q : Value → Shared → Prop} (ht : IsTup s.heap t items) (hs : s.heap.IsSliceOf sl vl vu .none) (pl : IsPart vl lo) (pu : IsPart vu hi)
    (hw : ¬ (sIx items.size 0 lo = 0 ∧ sIx items.size items.size hi = items.size))
    (h : Q (.ref s.heap.objs.size) { s with heap := s.heap.push { cls := .type "tuple", data := .seq ((items.toList.drop (sIx items.size 0 lo)).take (sIx items.size items.size hi - sIx items.size 0 lo)).toArray } })
    (hsz : items.size ≤ sizeLine) : wpAny (model prog w) A (getItem (.ref t) (.ref sl)) Q E s := by
  have htake : sizeOk (.seq ((items.toList.drop (sIx items.size 0 lo)).take (sIx items.size items.size hi - sIx items.size 0 lo)).toArray) := by
    show ((items.toList.drop (sIx items.size 0 lo)).take (sIx items.size items.size hi - sIx items.size 0 lo)).toArray.size ≤ sizeLine
    rw [List.size_toArray, List.length_take, List.length_drop, Array.length_toList]
    omega
  have hj : sIx items.size items.size hi ≤ items.size := sIx_le _ _ (Nat.le_refl _) hi
  obtain ⟨os, hos, hcs, hds⟩ := id hs
  have hTs : s.TypeIs (.ref sl) "slice" := ⟨os, hos, hcs⟩
  unfold getItem
  try with_reducible refine wpAny_holding ?_
  first | refine wpAny_bind (wpAny_pure ?_) | skip
  refine wpAny_bind (wpAny_sequenceKey ht.typeIs (by decide) ?_)
  refine wpAny_bind (wpAny_callSpecial?_slot (name := Str.ofString "__getitem__") ht.typeIs PyProof.Rows.slot_tuple_getitem
    (wpAny_call_entry PyProof.Rows.slot_tuple_getitem ht.typeIs entry_tuple_getitem ?_ (args_tuple_getitem _ _)))
  show wpAny _ _ (Builtin.Tuple.tupleItemsOf (.ref t) >>= _) _ _ s
  refine wpAny_bind (tupleItemsOf_ ht ?_)
  refine wpAny_bind (wpAny_typeOf hTs ?_)
  rw [if_pos (by decide)]
  refine wpAny_bind (sliceApplied_gen hs pl pu ?_)
  have hno : ¬ ((((sIx items.size 0 lo : Nat) : Int) == 0 && (1 : Int) == 1 && (sIx items.size items.size hi - sIx items.size 0 lo) == items.size) = true) := by
    intro q
    rw [Bool.and_eq_true, Bool.and_eq_true] at q
    have q1 : ((sIx items.size 0 lo : Nat) : Int) = 0 := eq_of_beq q.1.1
    have q2 : sIx items.size items.size hi - sIx items.size 0 lo = items.size := eq_of_beq q.2
    exact hw ⟨by omega, by omega⟩
  show wpAny _ _ (if (((sIx items.size 0 lo : Nat) : Int) == 0 && (1 : Int) == 1 && (sIx items.size items.size hi - sIx items.size 0 lo) == items.size) = true then _ else _) _ _ s
  rw [if_neg hno, pick_gen]
  first
    | exact wpAny_bind (m := Builtin.Tuple.tupleExact _) (wpAny_newObj_type (wpAny_pure ⟨_, rfl, wpAny_pure h⟩) htake)
    | exact wpAny_bind (m := Builtin.Tuple.tupleExact _) (wpAny_newObj_type (wpAny_bind (wpAny_pure (wpAny_pure ⟨_, rfl, wpAny_pure h⟩))) htake)
    | exact wpAny_bind (wpAny_bind (m := Builtin.Tuple.tupleExact _) (wpAny_newObj_type (wpAny_pure (wpAny_pure ⟨_, rfl, wpAny_pure h⟩)) htake))
    | exact wpAny_bind (wpAny_bind (m := Builtin.Tuple.tupleExact _) (wpAny_newObj_type (wpAny_pure ⟨_, rfl, wpAny_pure h⟩) htake))
end
end HT
namespace L2
open PySem PySem.Spec PyProof.Rows
abbrev TO := St → Hp → (Option Int → Hp → Prop) → Prop
def PO (X : Cx) (e : Option Expr) (t : TO) : Prop :=
  ∀ (pins : List (Addr × Obj)) (s : Shared) (σ : St) (H : Hp) (Q : Option Int → Hp → Prop), Inv X pins σ H s → t σ H Q →
    wpAny (model X.prog X.w) X.A (evalPart e X.env) (fun u s' => ∃ o H', Inv X pins σ H' s' ∧ IsPart u o ∧ Q o H') X.xe s
def tNoPart : TO := fun _ H Q => Q none H
def tPart (t : TE) : TO := fun σ H Q => t σ H fun x H1 => ∃ i, x = .int i ∧ Q (some i) H1
section
variable {X : Cx} {e : Expr} {te : TE} {lo hi : Option Expr} {tl th : TO} {pos p2 : Pos}
theorem po_none : PO X none tNoPart := by
  intro pins s σ H Q I h
  rw [evalPart_none]
  exact wpAny_pure ⟨none, H, I, .none, h⟩
theorem po_some (h : PE X e te) : PO X (some e) (tPart te) := by
  intro pins s σ H Q I hw
  rw [evalPart_some]
  refine thn (h pins s σ H _ I hw) fun u s1 ⟨x, H1, I1, r1, q1⟩ => ?_
  obtain ⟨i, rfl, q⟩ := q1
  obtain ⟨t, rfl⟩ := r1
  exact ⟨some i, H1, I1, .int i t, q⟩
def SlR (X : Cx) (r : V → Option Int → Option Int → Hp → VK → Prop) : Prop :=
  ∀ (pins : List (Addr × Obj)) (s : Shared) (σ : St) (H : Hp) (x : V) (v vl vu : Value) (lo hi : Option Int) (sl : Addr) (Q : VK), Inv X pins σ H s → RelV x v → s.heap.IsSliceOf sl vl vu .none → IsPart vl lo → IsPart vu hi → r x lo hi H Q →
    ∃ T id, typeLookup (.type T) "__getitem__" = pure (some (.builtin id)) ∧ s.TypeIs v T ∧ wpAny (model X.prog X.w) X.A (getItem v (.ref sl)) (EP X pins σ Q) X.xe s
theorem SlR.or {r r' : V → Option Int → Option Int → Hp → VK → Prop} (h : SlR X r) (h' : SlR X r') : SlR X (fun x lo hi H Q => r x lo hi H Q ∨ r' x lo hi H Q) := by
  intro pins s σ H x v vl vu lo hi sl Q I rx hs pl pu q
  rcases q with q | q
  · exact h pins s σ H x v vl vu lo hi sl Q I rx hs pl pu q
  · exact h' pins s σ H x v vl vu lo hi sl Q I rx hs pl pu q
def tSl (r : V → Option Int → Option Int → Hp → VK → Prop) (te : TE) (tl th : TO) : TE := fun σ H Q => te σ H fun x H1 => tl σ H1 fun l H2 => th σ H2 fun u H3 => r x l u H3 Q
theorem pe_slice {r : V → Option Int → Option Int → Hp → VK → Prop} (hr : SlR X r) (he : PE X e te) (hl : PO X lo tl) (hu : PO X hi th) : PE X (.Subscript e (.Slice lo hi none p2) pos) (tSl r te tl th) := by
  intro pins s σ H Q I h
  refine Subscript_ (thn (he pins s σ H _ I h) fun v s1 ⟨x, H1, I1, r1, q1⟩ => ?_)
  refine wpAny_Slice (thn (hl pins s1 σ H1 _ I1 q1) fun vl s2 ⟨l, H2, I2, pl, q2⟩ => thn (hu pins s2 σ H2 _ I2 q2) fun vu s3 ⟨u, H3, I3, pu, q3⟩ => ?_)
  rw [evalPart_none]
  refine wpAny_pure ?_
  have I4 : Inv X pins σ H3 { s3 with heap := s3.heap.push { cls := .type "slice", data := .fields #[vl, vu, .none] } } := I3.kept (t' := s3.toks) fun b ob q => Heap.get?_push_of_some _ q
  obtain ⟨T, id, hT, ht, hg⟩ := hr pins { s3 with heap := s3.heap.push { cls := .type "slice", data := .fields #[vl, vu, .none] } } σ H3 x v vl vu l u s3.heap.objs.size Q I4 r1 (Heap.IsSliceOf.new ..) pl pu q3
  show wpAny (model X.prog X.w) X.A (subscriptTail e (.Slice lo hi none p2) v (.ref s3.heap.objs.size)) (EP X pins σ Q) X.xe { s3 with heap := s3.heap.push { cls := .type "slice", data := .fields #[vl, vu, .none] } }
  exact tail_any (ops := [.ref s3.heap.objs.size, v]) ht hT hg (by with_unfolding_all rfl)
def cutV (xs : List V) (lo hi : Option Int) : List V := (xs.drop (HT.sIx xs.length 0 lo)).take (HT.sIx xs.length xs.length hi - HT.sIx xs.length 0 lo)
theorem cutV_length (xs : List V) (lo hi : Option Int) : (cutV xs lo hi).length ≤ xs.length := by
  unfold cutV
  rw [List.length_take, List.length_drop]
  omega
def rSlT (K : PySem.W.Frag) : V → Option Int → Option Int → Hp → VK → Prop := fun x lo hi H Q => ∃ a xs, x = .ref a ∧ SqT K H a xs ∧
  ¬ (HT.sIx xs.length 0 lo = 0 ∧ HT.sIx xs.length xs.length hi = xs.length) ∧ ∀ p, H p = none → Q (.ref p) (upd H p (.tup (cutV xs lo hi)))
theorem sl_tup : SlR X (rSlT X.K) := by
  intro pins s σ H x v vl vu lo hi sl Q I rx hs pl pu h
  obtain ⟨a, xs, rfl, hx, hw, q⟩ := h
  cases rx
  obtain ⟨its, r, ht, hz⟩ := I.tuple hx
  have hlen : its.toArray.size = xs.length := by rw [List.size_toArray]; exact r.length.symm
  refine ⟨"tuple", _, PyProof.Rows.slot_tuple_getitem.lookup, ht.typeIs, ?_⟩
  refine HT.getItem_tuple_cut ht hs pl pu (by rw [hlen]; exact hw) ?_ (by rw [hlen]; exact hz)
  rw [hlen]
  refine ⟨.ref s.heap.objs.size, _, I.laid (t' := s.toks) (o := .tup (cutV xs lo hi)) (fun b ob q => Heap.get?_push_of_some _ q) (Nat.le_refl _) ?_, rfl, q _ (I.hok.fresh (Nat.le_refl _))⟩
  exact ⟨Nat.le_trans (cutV_length xs lo hi) hz, _, (r.drop (HT.sIx xs.length 0 lo)).take (HT.sIx xs.length xs.length hi - HT.sIx xs.length 0 lo), IsTup.new _ _⟩
end
end L2
namespace L2
open PySem PySem.Spec PyProof.Rows
def ixN (n : Nat) (i : Int) : Option Nat := if 0 ≤ i then (if i < n then some i.toNat else none) else if -(n : Int) ≤ i then some (i + n).toNat else none
def atI {α : Type} (xs : List α) (i : Int) : Option α := (ixN xs.length i).bind fun j => xs[j]?
theorem ixN_seq {n : Nat} {i : Int} {j : Nat} (h : ixN n i = some j) : seqIndex? i n = some j ∧ j < n ∧ -(n : Int) ≤ i ∧ i < n := by
  unfold ixN at h
  by_cases h0 : 0 ≤ i
  · rw [if_pos h0] at h
    by_cases h1 : i < n
    · rw [if_pos h1] at h
      have e : i.toNat = j := Option.some.inj h
      exact ⟨by rw [seqIndex_of h0 h1, e], by omega, by omega, h1⟩
    · rw [if_neg h1] at h; cases h
  · rw [if_neg h0] at h
    by_cases h1 : -(n : Int) ≤ i
    · rw [if_pos h1] at h
      have e : (i + n).toNat = j := Option.some.inj h
      exact ⟨by rw [seqIndex_neg (by omega) h1, e], by omega, h1, by omega⟩
    · rw [if_neg h1] at h; cases h
theorem atI_get {α : Type} {xs : List α} {i : Int} {v : α} (h : atI xs i = some v) : ∃ j, seqIndex? i xs.length = some j ∧ xs[j]? = some v ∧ j < xs.length ∧ -(xs.length : Int) ≤ i ∧ i < xs.length := by
  unfold atI at h
  cases e : ixN xs.length i with
  | none => rw [e] at h; cases h
  | some j =>
    rw [e] at h
    obtain ⟨h1, h2, h3, h4⟩ := ixN_seq e
    exact ⟨j, h1, h, h2, h3, h4⟩
theorem atI_nat {α : Type} {xs : List α} {j : Nat} {v : α} (h : xs[j]? = some v) : atI xs (j : Int) = some v := by
  have hj : j < xs.length := (List.getElem?_eq_some_iff.mp h).1
  have e : ixN xs.length (j : Int) = some j := by
    unfold ixN
    rw [if_pos (by omega), if_pos (by omega)]; simp
  unfold atI; rw [e]; exact h
theorem atI_last {α : Type} (xs : List α) (v : α) : atI (xs ++ [v]) (-1) = some v := by
  have hl : (xs ++ [v]).length = xs.length + 1 := by simp
  have e : ixN (xs ++ [v]).length (-1) = some xs.length := by
    unfold ixN
    rw [hl, if_neg (by decide), if_pos (by omega)]
    congr 1
    omega
  unfold atI
  rw [e]
  show (xs ++ [v])[xs.length]? = some v
  simp
def PlainIx (b : Expr) : Prop := ∀ o i, subscripted b false o i = operate [o, i] (getItem o i)
def IxR (X : Cx) (r : R2) : Prop :=
  ∀ (value slice : Expr) (pins : List (Addr × Obj)) (s : Shared) (σ : St) (H : Hp) (x y : V) (v u : Value) (Q : VK), Inv X pins σ H s → RelV x v → RelV y u → r x y H Q →
    subscripted slice false v u = operate [v, u] (getItem v u) → wpAny (model X.prog X.w) X.A (subscriptTail value slice v u) (EP X pins σ Q) X.xe s
def MtR (X : Cx) (id : String) (r : V → List V → Hp → VK → Prop) : Prop :=
  ∀ (pins : List (Addr × Obj)) (s : Shared) (σ : St) (H : Hp) (x : V) (xs : List V) (v : Value) (us : List Value) (Q : VK), Inv X pins σ H s → RelV x v → Vals xs us → r x xs H Q →
    wpAny (model X.prog X.w) X.A (call (.builtin id) (v :: us)) (EP X pins σ Q) X.xe s
section
variable {X : Cx} {a b : Expr} {ta tb : TE} {pos : Pos}
theorem IxR.or {r r' : R2} (h : IxR X r) (h' : IxR X r') : IxR X (fun x y H Q => r x y H Q ∨ r' x y H Q) := by
  intro value slice pins s σ H x y v u Q I rx ry q hs
  rcases q with q | q
  · exact h value slice pins s σ H x y v u Q I rx ry q hs
  · exact h' value slice pins s σ H x y v u Q I rx ry q hs
theorem MtR.or {id : String} {r r' : V → List V → Hp → VK → Prop} (h : MtR X id r) (h' : MtR X id r') : MtR X id (fun x xs H Q => r x xs H Q ∨ r' x xs H Q) := by
  intro pins s σ H x xs v us Q I rx rs q
  rcases q with q | q
  · exact h pins s σ H x xs v us Q I rx rs q
  · exact h' pins s σ H x xs v us Q I rx rs q
theorem pe_ix {r : R2} (hr : IxR X r) (ha : PE X a ta) (hb : PE X b tb) (hs : PlainIx b) : PE X (.Subscript a b pos) (tOp r ta tb) := by
  intro pins s σ H Q I h
  exact Subscript_ (binT ha hb I h fun v u s2 x y H2 I2 rx ry q => hr a b pins s2 σ H2 x y v u Q I2 rx ry q (hs _ _))
def rIxL (K : PySem.W.Frag) : R2 := fun x y H Q => ∃ p xs i v, x = .ref p ∧ y = .int i ∧ SqL K H p xs ∧ atI xs i = some v ∧ Q v H
def rIxT (K : PySem.W.Frag) : R2 := fun x y H Q => ∃ p xs i v, x = .ref p ∧ y = .int i ∧ SqT K H p xs ∧ atI xs i = some v ∧ Q v H
def rIxS : R2 := fun x y H Q => ∃ z i c, x = .str z ∧ y = .int i ∧ z.length ≤ sizeLine ∧ atI z.cps.toList i = some c ∧ Q (.str ⟨#[c]⟩) H
theorem ix_list : IxR X (rIxL X.K) := by
  intro value slice pins s σ H x y v u Q I rx ry h hs
  obtain ⟨p, xs, i, z, rfl, rfl, hq, he, q⟩ := h
  cases rx
  obtain ⟨t, rfl⟩ := ry
  obtain ⟨its, r, pl, hz⟩ := I.list hq
  obtain ⟨j, h1, h2, h3, h4, h5⟩ := atI_get he
  obtain ⟨w, ew, rw'⟩ := r.get h2
  have hl := r.length
  have hn := line63
  have fin : EP X pins σ Q w s := ⟨z, H, I, rw', q⟩
  by_cases h0 : 0 ≤ i
  · have hj : i.toNat = j := by
      rw [seqIndex_of h0 h5] at h1
      exact Option.some.inj h1
    exact item_listR pl.isList h0 (by omega) (by rw [hj]; simpa using ew) fin hs
  · have hj : (i + (its.toArray.size : Int)).toNat = j := by
      rw [seqIndex_neg (by omega) h4] at h1
      rw [List.size_toArray, ← hl]
      exact Option.some.inj h1
    exact subscriptTail_builtinR (x := w) pl.isList.typeIs slot_list_getitem.lookup
      (wpAny_getItem_list_neg (Q := fun r s' => r = w ∧ EP X pins σ Q r s') pl.isList (by omega) (by rw [List.size_toArray] <;> omega) (by omega) (by rw [hj]; simpa using ew) ⟨rfl, fin⟩) hs
theorem ix_tup : IxR X (rIxT X.K) := by
  intro value slice pins s σ H x y v u Q I rx ry h hs
  obtain ⟨p, xs, i, z, rfl, rfl, hq, he, q⟩ := h
  cases rx
  obtain ⟨t, rfl⟩ := ry
  obtain ⟨its, r, pl, hz⟩ := I.tuple hq
  obtain ⟨j, h1, h2, h3, h4, h5⟩ := atI_get he
  obtain ⟨w, ew, rw'⟩ := r.get h2
  have hl := r.length
  have hn := line63
  have fin : EP X pins σ Q w s := ⟨z, H, I, rw', q⟩
  exact subscriptTail_builtinR (x := w) pl.typeIs slot_tuple_getitem.lookup
    (getItem_tuple (j := j) (Q := fun r s' => r = w ∧ EP X pins σ Q r s') pl (by omega) (by omega) (by rw [List.size_toArray, ← hl]; exact h1) (by simpa using ew) ⟨rfl, fin⟩) hs
theorem ix_str : IxR X rIxS := by
  intro value slice pins s σ H x y v u Q I rx ry h hs
  obtain ⟨z, i, c, rfl, rfl, hz, he, q⟩ := h
  obtain ⟨t, rfl⟩ := rx
  obtain ⟨t', rfl⟩ := ry
  obtain ⟨j, h1, h2, h3, h4, h5⟩ := atI_get he
  have hl : z.cps.toList.length = z.length := by simp [Str.length]
  rw [hl] at h1 h4 h5
  have hn := line63
  exact tail_any (typeIs_str s z t) slot_str_getitem.lookup (getItem_str (c := c) (by
    have e1 : decide (i < -(2 ^ 63 : Int)) = false := decide_eq_false (by omega)
    have e2 : decide (i ≥ 2 ^ 63) = false := decide_eq_false (by omega)
    rw [e1, e2, Bool.or_false]) (by rw [h1]; simpa using h2) ⟨.str ⟨#[c]⟩, H, I.tok _, ⟨_, rfl⟩, q⟩) hs
def rIx (K : PySem.W.Frag) : R2 := fun x y H Q => rIxL K x y H Q ∨ rIxT K x y H Q ∨ rIxS x y H Q
theorem ix_seq : IxR X (rIx X.K) := ix_list.or (ix_tup.or ix_str)
theorem Inv.lst {pins : List (Addr × Obj)} {σ : St} {H : Hp} {s : Shared} {p : Addr} {xs : List V} (I : Inv X pins σ H s) (h : H p = some (.lst xs)) :
    ∃ (its : List Value) (n : Nat), Vals xs its ∧ s.heap.get? p = some { cls := .type "list", data := .seq its.toArray n } ∧ xs.length ≤ sizeLine := by
  obtain ⟨z, its, n, r, e⟩ := I.hok p _ h
  exact ⟨its, n, r, e, z⟩
theorem slice_bounds (lo hi : Option Int) (n : Nat) : (sliceBounds lo hi none n).1 = ((HT.sIx n 0 lo : Nat) : Int) ∧ (sliceBounds lo hi none n).2.1 = ((HT.sIx n n hi : Nat) : Int) ∧ (sliceBounds lo hi none n).2.2 = 1 := by
  refine ⟨?_, ?_, rfl⟩
  · cases lo with
    | none => simp [sliceBounds, HT.sIx]
    | some i =>
      simp only [sliceBounds, HT.sIx, Option.getD_none, show (1 : Int) > 0 by decide, if_true]
      by_cases h : i < 0
      · simp only [h, if_true] <;> omega
      · simp only [h, if_false] <;> omega
  · cases hi with
    | none => simp [sliceBounds, HT.sIx]
    | some i =>
      simp only [sliceBounds, HT.sIx, Option.getD_none, show (1 : Int) > 0 by decide, if_true]
      by_cases h : i < 0
      · simp only [h, if_true] <;> omega
      · simp only [h, if_false] <;> omega
theorem slicePick_cut (its : List Value) (lo hi : Option Int) : slicePick its.toArray lo hi none = ((its.drop (HT.sIx its.length 0 lo)).take (HT.sIx its.length its.length hi - HT.sIx its.length 0 lo)).toArray := by
  obtain ⟨h1, h2, h3⟩ := slice_bounds lo hi its.toArray.size
  unfold slicePick
  rw [h1, h2, h3]
  simp only [sliceRange_one, pick_run, List.size_toArray] <;> rfl
def rSlL (K : PySem.W.Frag) : V → Option Int → Option Int → Hp → VK → Prop := fun x lo hi H Q => ∃ a xs, x = .ref a ∧ SqL K H a xs ∧ ∀ p, H p = none → Q (.ref p) (upd H p (.lst (cutV xs lo hi)))
theorem sl_list : SlR X (rSlL X.K) := by
  intro pins s σ H x v vl vu lo hi sl Q I rx hs pl pu h
  obtain ⟨a, xs, rfl, hx, q⟩ := h
  cases rx
  obtain ⟨its, r, ht, hz⟩ := I.list hx
  have hlen := r.length
  refine ⟨"list", _, slot_list_getitem.lookup, ht.isList.typeIs, ?_⟩
  refine wpAny_getItem_list_slice ht.isList hs pl pu .none (by simp) ?_ (by rw [List.size_toArray] <;> omega)
  rw [slicePick_cut, ← hlen]
  refine ⟨.ref s.heap.objs.size, _, I.laid (t' := s.toks) (o := .lst (cutV xs lo hi)) (fun b ob q => Heap.get?_push_of_some _ q) (Nat.le_refl _) ?_, rfl, q _ (I.hok.fresh (Nat.le_refl _))⟩
  exact ⟨Nat.le_trans (cutV_length xs lo hi) hz, _, 0, (r.drop (HT.sIx xs.length 0 lo)).take (HT.sIx xs.length xs.length hi - HT.sIx xs.length 0 lo), Heap.get?_push_size _ rfl⟩
def flatV : V → Bool
  | .non => true
  | .bl _ => true
  | .int _ => true
  | .str _ => true
  | _ => false
def eqV : V → V → Bool
  | .non, .non => true
  | .bl a, .bl b => a == b
  | .bl a, .int b => (if a then 1 else 0) == b
  | .int a, .bl b => a == (if b then 1 else 0)
  | .int a, .int b => a == b
  | .str a, .str b => a == b
  | _, _ => false
theorem eqAt_V {A : Around} {s : Shared} {y x : V} {u v : Value} (ry : RelV y u) (rx : RelV x v) (fy : flatV y = true) (fx : flatV x = true) : SeqAt.EqAt A s u v (eqV y x) := by
  cases y with
  | non =>
    cases ry
    cases x with
    | non => cases rx; exact SeqAt.EqAt.same _
    | bl b => cases rx; exact SeqAt.EqAt.none_bool b
    | int b => obtain ⟨t, rfl⟩ := rx; exact SeqAt.EqAt.none_int b t
    | str b => obtain ⟨t, rfl⟩ := rx; exact SeqAt.EqAt.none_str b t
    | _ => exact absurd (show false = true from fx) Bool.false_ne_true
  | bl a =>
    cases ry
    cases x with
    | non => cases rx; exact SeqAt.EqAt.bool_none a
    | bl b => cases rx; exact SeqAt.EqAt.bool_bool a b
    | int b => obtain ⟨t, rfl⟩ := rx; exact SeqAt.EqAt.bool_int a b t
    | str b => obtain ⟨t, rfl⟩ := rx; exact SeqAt.EqAt.bool_str a b t
    | _ => exact absurd (show false = true from fx) Bool.false_ne_true
  | int a =>
    obtain ⟨t', rfl⟩ := ry
    cases x with
    | non => cases rx; exact SeqAt.EqAt.int_none a t'
    | bl b => cases rx; exact SeqAt.EqAt.int_bool a t' b
    | int b => obtain ⟨t, rfl⟩ := rx; exact SeqAt.EqAt.int_int a t' b t
    | str b => obtain ⟨t, rfl⟩ := rx; exact SeqAt.EqAt.int_str a t' b t
    | _ => exact absurd (show false = true from fx) Bool.false_ne_true
  | str a =>
    obtain ⟨t', rfl⟩ := ry
    cases x with
    | non => cases rx; exact SeqAt.EqAt.str_none a t'
    | bl b => cases rx; exact SeqAt.EqAt.str_bool a t' b
    | int b => obtain ⟨t, rfl⟩ := rx; exact SeqAt.EqAt.str_int a t' b t
    | str b => obtain ⟨t, rfl⟩ := rx; exact SeqAt.EqAt.str_str a t' b t
    | _ => exact absurd (show false = true from fx) Bool.false_ne_true
  | _ => exact absurd (show false = true from fy) Bool.false_ne_true
def eqU (x : V) (u : Value) : Bool := match u with
  | .none => eqV .non x
  | .bool b => eqV (.bl b) x
  | .int i _ => eqV (.int i) x
  | .str z _ => eqV (.str z) x
  | _ => false
theorem eqU_of {x y : V} {u : Value} (r : RelV y u) (f : flatV y = true) : eqU x u = eqV y x := by
  cases y with
  | non => cases r; rfl
  | bl b => cases r; rfl
  | int i => obtain ⟨t, rfl⟩ := r; rfl
  | str z => obtain ⟨t, rfl⟩ := r; rfl
  | _ => exact absurd (show false = true from f) Bool.false_ne_true
theorem any_eqU {x : V} : ∀ {xs : List V} {us : List Value}, Vals xs us → xs.all flatV = true → us.any (eqU x) = xs.any fun y => eqV y x
  | _, _, .nil, _ => rfl
  | y :: xs, u :: us, .cons r t, f => by
    rw [List.all_cons, Bool.and_eq_true] at f
    rw [List.any_cons, List.any_cons, eqU_of r f.1, any_eqU t f.2]
theorem mem_eqAt {A : Around} {s : Shared} {x : V} {v : Value} (rx : RelV x v) (fx : flatV x = true) : ∀ {xs : List V} {us : List Value}, Vals xs us → xs.all flatV = true → ∀ u ∈ us, SeqAt.EqAt A s u v (eqU x u)
  | _, _, .nil, _ => fun u hu => by cases hu
  | y :: xs, u :: us, .cons r t, f => fun u' hu => by
    rw [List.all_cons, Bool.and_eq_true] at f
    rcases List.mem_cons.mp hu with rfl | hu
    · rw [eqU_of r f.1]; exact eqAt_V r rx f.1 fx
    · exact mem_eqAt rx fx t f.2 u' hu
def inV (x : V) (xs : List V) : Bool := xs.any fun y => eqV y x
def rIn (K : PySem.W.Frag) (neg : Bool) : R2 := fun x y H Q => ∃ p xs, y = .ref p ∧ (SqL K H p xs ∨ SqT K H p xs) ∧ flatV x = true ∧ xs.all flatV = true ∧ Q (.bl (if neg then !inV x xs else inV x xs)) H
theorem op_in_seq : OpR X (compareOp .In) (rIn X.K false) := by
  intro pins s σ H x y v u Q I rx ry h
  obtain ⟨p, xs, rfl, hq, fx, fs, q⟩ := h
  cases ry
  rcases hq with hq | hq
  · obtain ⟨its, r, pl, hz⟩ := I.list hq
    refine SeqAt.in_listAt (eqU x) pl.isList (fun w hw => mem_eqAt rx fx r fs w (by simpa using hw)) ⟨.bl _, H, I, rfl, ?_⟩
    rw [show its.toArray.any (eqU x) = its.any (eqU x) by simp, any_eqU r fs]
    exact q
  · obtain ⟨its, r, pl, hz⟩ := I.tuple hq
    refine SeqAt.in_tupleAt (eqU x) pl (fun w hw => mem_eqAt rx fx r fs w (by simpa using hw)) ⟨.bl _, H, I, rfl, ?_⟩
    rw [show its.toArray.any (eqU x) = its.any (eqU x) by simp, any_eqU r fs]
    exact q
theorem op_notIn_seq : OpR X (compareOp .NotIn) (rIn X.K true) := by
  intro pins s σ H x y v u Q I rx ry h
  obtain ⟨p, xs, rfl, hq, fx, fs, q⟩ := h
  cases ry
  rcases hq with hq | hq
  · obtain ⟨its, r, pl, hz⟩ := I.list hq
    refine SeqAt.notIn_listAt (eqU x) pl.isList (fun w hw => mem_eqAt rx fx r fs w (by simpa using hw)) ⟨.bl _, H, I, rfl, ?_⟩
    rw [show its.toArray.any (eqU x) = its.any (eqU x) by simp, any_eqU r fs]
    exact q
  · obtain ⟨its, r, pl, hz⟩ := I.tuple hq
    refine SeqAt.notIn_tupleAt (eqU x) pl (fun w hw => mem_eqAt rx fx r fs w (by simpa using hw)) ⟨.bl _, H, I, rfl, ?_⟩
    rw [show its.toArray.any (eqU x) = its.any (eqU x) by simp, any_eqU r fs]
    exact q
theorem op_notIn_str : OpR X (compareOp .NotIn) (fun x y H Q => ∃ i j, x = .str i ∧ y = .str j ∧ Q (.bl (!(!(Builtin.Str.occurrences j i 0 j.length 1).isEmpty))) H) := by
  intro pins s σ H x y v u Q I rx ry h
  obtain ⟨i, j, rfl, rfl, q⟩ := h
  obtain ⟨t, rfl⟩ := rx
  obtain ⟨t', rfl⟩ := ry
  exact notIn_str ⟨.bl _, H, I, rfl, q⟩
theorem CallR.or {f : Value} {r r' : List V → Hp → VK → Prop} (h : CallR X f r) (h' : CallR X f r') : CallR X f (fun xs H Q => r xs H Q ∨ r' xs H Q) := by
  intro pins s σ H xs us Q I rs q
  rcases q with q | q
  · exact h pins s σ H xs us Q I rs q
  · exact h' pins s σ H xs us Q I rs q
theorem call_list_of : CallR X (.type "list") (fun xs H Q => ∃ p ys, xs = [.ref p] ∧ (SqL X.K H p ys ∨ SqT X.K H p ys) ∧ ∀ l, H l = none → Q (.ref l) (upd H l (.lst ys))) := by
  intro pins s σ H xs us Q I r h
  obtain ⟨p, ys, rfl, hq, q⟩ := h
  obtain ⟨u, rfl, rx⟩ := vals1 r
  cases rx
  have fin : ∀ (its : List Value), Vals ys its → ys.length ≤ sizeLine → ∀ (h' : Heap) (c' : Nat), (∀ b o', s.heap.get? b = some o' → h'.get? b = some o') →
      h'.get? s.heap.objs.size = some { cls := .type "list", dict := none, data := .seq its.toArray c', slots := #[] } → EP X pins σ Q (.ref s.heap.objs.size) { s with heap := h' } := fun its r' hz h' c' kp e =>
    ⟨.ref s.heap.objs.size, _, I.laid (t' := s.toks) kp (Nat.le_refl _) (show ObjOk X.prog X.w _ h' _ (.lst ys) from ⟨hz, its, c', r', e⟩), rfl, q _ (I.hok.fresh (Nat.le_refl _))⟩
  rcases hq with hq | hq
  · obtain ⟨its, r', pl, hz⟩ := I.list hq
    have hlen := r'.length
    obtain ⟨o, ho, hc, n, hd⟩ := pl.isList
    exact call_list_seq p (.inl rfl) ho hc hd (fun h' c' kp e => fin its r' hz h' c' kp e) (by simp only [List.size_toArray] <;> omega)
  · obtain ⟨its, r', pl, hz⟩ := I.tuple hq
    have hlen := r'.length
    obtain ⟨o, ho, hc, n, hd⟩ := pl
    exact call_list_seq p (.inr rfl) ho hc hd (fun h' c' kp e => fin its r' hz h' c' kp e) (by simp only [List.size_toArray] <;> omega)
theorem call_tuple_of : CallR X (.type "tuple") (fun xs H Q => ∃ p ys, xs = [.ref p] ∧ ((SqL X.K H p ys ∧ ∀ l, H l = none → Q (.ref l) (upd H l (.tup ys))) ∨ (SqT X.K H p ys ∧ Q (.ref p) H))) := by
  intro pins s σ H xs us Q I r h
  obtain ⟨p, ys, rfl, h⟩ := h
  obtain ⟨u, rfl, rx⟩ := vals1 r
  cases rx
  rcases h with ⟨hq, q⟩ | ⟨hq, q⟩
  · obtain ⟨its, r', pl, hz⟩ := I.list hq
    have hlen := r'.length
    refine call_tuple_list pl.isList (fun h' kp => ?_) (by simp only [List.size_toArray] <;> omega)
    have I1 : Inv X pins σ H { s with heap := h' } := I.kept (t' := s.toks) kp
    have I2 : Inv X pins σ (upd H h'.objs.size (.tup ys)) { s with heap := h'.push { cls := .type "tuple", data := .seq its.toArray } } :=
      I1.laid (t' := s.toks) (fun b o e => Heap.get?_push_of_some _ e) (Nat.le_refl _) (show ObjOk X.prog X.w _ _ _ (.tup ys) from ⟨hz, its, r', IsTup.new _ _⟩)
    exact ⟨.ref h'.objs.size, _, I2, rfl, q _ (I1.hok.fresh (Nat.le_refl _))⟩
  · obtain ⟨its, r', pl, hz⟩ := I.tuple hq
    exact call_tuple_same pl ⟨.ref p, H, I, rfl, q⟩
def tyV (K : PySem.W.Frag) (T : String) (x : V) (H : Hp) : Prop := match x with
  | .str _ => T = "str"
  | .int _ => T = "int"
  | .ref p => (T = "list" ∧ ∃ xs, SqL K H p xs) ∨ (T = "tuple" ∧ ∃ o, K.lookup p = some o ∧ o.cls = .type "tuple" ∧ o.dict = none) ∨
      (T = "dict" ∧ ((∃ kvs, H p = some (.dK kvs)) ∨ ∃ kvs, H p = some (.dT kvs))) ∨ (T = "set" ∧ ∃ S n, H p = some (.set S n))
  | _ => False
theorem tyV_is {pins : List (Addr × Obj)} {σ : St} {H : Hp} {s : Shared} {T : String} {x : V} {v : Value} (I : Inv X pins σ H s) (r : RelV x v) (ty : tyV X.K T x H) :
    s.TypeIs v T ∧ ∀ a, v = .ref a → ∃ ob, s.heap.get? a = some ob ∧ ob.dict = none := by
  cases x with
  | str z =>
    obtain ⟨t, rfl⟩ := r
    cases (show T = "str" from ty)
    exact ⟨typeIs_str s z t, fun _ e => nomatch e⟩
  | int i =>
    obtain ⟨t, rfl⟩ := r
    cases (show T = "int" from ty)
    exact ⟨typeIs_int s i t, fun _ e => nomatch e⟩
  | ref p =>
    cases r
    rcases ty with ⟨rfl, xs, hq⟩ | ⟨rfl, o, hk, hc, hd⟩ | ⟨rfl, hk⟩ | ⟨rfl, S, n, hk⟩
    · obtain ⟨its, _, pl, _⟩ := I.list hq
      refine ⟨pl.isList.typeIs, fun a e => ?_⟩
      cases e
      obtain ⟨o, n, e, c, hd, _⟩ := pl
      exact ⟨o, e, hd⟩
    · refine ⟨⟨o, I.kIn p o hk, hc⟩, fun a e => ?_⟩
      cases e
      exact ⟨o, I.kIn _ o hk, hd⟩
    · have z : ∃ o, s.heap.get? p = some o ∧ o.ExactDict := by
        rcases hk with ⟨kvs, hk⟩ | ⟨kvs, hk⟩
        · obtain ⟨_, _, _, _, o, _, _, e, ex, _⟩ := I.hok p _ hk
          exact ⟨o, e, ex⟩
        · obtain ⟨_, _, _, _, o, _, _, e, ex, _⟩ := I.hok p _ hk
          exact ⟨o, e, ex⟩
      obtain ⟨o, e, ex⟩ := z
      refine ⟨⟨o, e, ex.1⟩, fun a e2 => ?_⟩
      cases e2
      exact ⟨o, e, ex.2.1⟩
    · obtain ⟨o, _, _, _, e, ex, _⟩ := I.hok p _ hk
      refine ⟨⟨o, e, ex.1⟩, fun a e2 => ?_⟩
      cases e2
      exact ⟨o, e, ex.2.1⟩
  | _ => exact False.elim ty
def tBM (K : PySem.W.Frag) (T : String) (r : V → List V → Hp → VK → Prop) (to : TE) (t : TA) : TE := fun σ H Q => to σ H fun x H1 => tyV K T x H1 ∧ t σ H1 fun xs H2 => r x xs H2 Q
variable {o e : Expr} {es : List Expr} {to : TE} {t : TA} {name : Str} {apos cpos : Pos} {T id : String} {r : V → List V → Hp → VK → Prop}
theorem pe_bm (pa : PlainAttrs T) (slot : Slot T name id) (hty : typeOf (.builtin id) = pure (.type "method_descriptor")) (hm : MtR X id r) (ho : PE X o to) (ha : PA X (e :: es) t)
    (hbase : attributeBase o name X.env (eval o X.env) = eval o X.env := by rfl)
    (hfew : ((backTo cpos (starEach (e :: es) X.env)).all (fun x => !x.1) && (backToKw cpos (keywordEach [] X.env)).all (fun x => x.1.isSome)
      && decide ((e :: es).length + ([] : List Keyword).length + (if ([] : List Keyword).isEmpty then 0 else 1) < 30)) = true := by rfl)
    (hline : (apos.endLine == cpos.line) = true := by rfl) (hs : starEach (e :: es) X.env = (false, eval e X.env) :: starEach es X.env := by rfl) (hplain : (backTo cpos (starEach es X.env)).any (·.1) = false := by rfl) :
    PE X (.Call (.Attribute o name apos) (e :: es) [] cpos) (tBM X.K T r to t) := by
  intro pins s σ H Q I h
  refine wpAny_Call_method_late hbase hfew hline rfl (thn (ho pins s σ H _ I h) fun v s1 ⟨x, H1, I1, r1, ty, q1⟩ => ?_)
  obtain ⟨h1, h2⟩ := tyV_is I1 r1 ty
  refine ⟨T, id, pa, slot, hty, h1, h2, ?_⟩
  have hA := ha cpos pins s1 σ H1 _ I1 q1
  rw [hs] at hA ⊢
  refine Calls.callWith_builtin (by show (false || (backTo cpos (starEach es X.env)).any (·.1)) = false; rw [hplain] <;> rfl) (Calls.evalArgs_plain ?_)
  exact thn hA fun us s2 ⟨vs, H2, I2, r2, q2⟩ => hm pins s2 σ H2 x vs v us Q I2 r1 r2 q2
end
end L2
namespace L2
open PySem PySem.Spec PyProof.Rows
def MtM (X : Cx) (id : String) (r : V → List V → Hp → VK → Prop) : Prop :=
  ∀ (pins : List (Addr × Obj)) (s : Shared) (σ : St) (H : Hp) (x : V) (xs : List V) (v : Value) (us : List Value) (Q : VK), Inv X pins σ H s → RelV x v → Vals xs us → r x xs H Q →
    wpAny (model X.prog X.w) X.A (call (.builtin id) (v :: us)) (EP X pins σ Q) X.xe s
theorem Vals.one : ∀ {x : V} {us : List Value}, Vals [x] us → ∃ u, us = [u] ∧ RelV x u
  | _, _, .cons r .nil => ⟨_, rfl, r⟩
theorem Vals.zero : ∀ {us : List Value}, Vals [] us → us = []
  | _, .nil => rfl
theorem Vals.dropLast {xs : List V} {us : List Value} (h : Vals xs us) : Vals xs.dropLast us.dropLast := by
  induction h with
  | nil => exact .nil
  | cons r t ih =>
    cases t with
    | nil => exact .nil
    | cons q t' => exact .cons r ih
theorem Vals.rep {xs : List V} {us : List Value} (h : Vals xs us) : ∀ k : Nat, Vals (List.replicate k xs).flatten (List.replicate k us).flatten
  | 0 => .nil
  | k + 1 => by
    rw [List.replicate_succ, List.replicate_succ, List.flatten_cons, List.flatten_cons]
    exact Vals.append h (Vals.rep h k)
section
variable {X : Cx} {pins : List (Addr × Obj)} {σ : St} {H : Hp} {s : Shared} {l b : Addr} {xs ys zs : List V}
theorem Inv.lset {its its' : List Value} {n : Nat} {f : Array Value → Array Value} {t' : Nat} (I : Inv X pins σ H s) (hH : H l = some (.lst xs))
    (e : s.heap.get? l = some { cls := .type "list", data := .seq its.toArray n }) (hf : f its.toArray = its'.toArray) (hv : Vals ys its') (hz : ys.length ≤ sizeLine) :
    Inv X pins σ (upd H l (.lst ys)) { s with heap := s.heap.update l (Obj.mapSeq f), toks := t' } := by
  have q := PySem.IsL.update e f
  rw [hf] at q
  refine I.write (x := l) (e := l) (by rw [hH]; exact trivial) (.inl rfl) (fun b' u hb hu => (Heap.get?_update_other s.heap (Obj.mapSeq f) (Ne.symm hb)).trans hu) ⟨_, q⟩ ?_
  exact ⟨hz, its', _, hv, q⟩
theorem Inv.lnew {its : List Value} {t' : Nat} (I : Inv X pins σ H s) (hv : Vals ys its) (hz : ys.length ≤ sizeLine) :
    Inv X pins σ (upd H s.heap.objs.size (.lst ys)) { s with heap := s.heap.push { cls := .type "list", data := .seq its.toArray }, toks := t' } :=
  I.laid (fun _ _ q => Heap.get?_push_of_some _ q) (Nat.le_refl _) ⟨hz, its, 0, hv, Heap.get?_push_size _ rfl⟩
theorem Inv.fresh (I : Inv X pins σ H s) : H s.heap.objs.size = none := I.hok.fresh (Nat.le_refl _)
theorem Inv.lstM (I : Inv X pins σ H s) (hH : H l = some (.lst xs)) : xs.length ≤ sizeLine ∧ ∃ (its : List Value) (n : Nat), Vals xs its ∧ xs.length = its.length ∧ s.heap.get? l = some { cls := .type "list", data := .seq its.toArray n } := by
  obtain ⟨z, its, n, r, e⟩ := I.hok l _ hH
  exact ⟨z, its, n, r, r.length, e⟩
end
section
variable {X : Cx}
def rAppend : V → List V → Hp → VK → Prop := fun x vs H Q => ∃ l xs y, x = .ref l ∧ vs = [y] ∧ H l = some (.lst xs) ∧ xs.length < sizeLine ∧ Q .non (upd H l (.lst (xs ++ [y])))
theorem mt_append : MtM X "list.append" rAppend := by
  intro pins s σ H x vs v us Q I rx rv h
  obtain ⟨l, xs, y, rfl, rfl, hH, hz, q⟩ := h
  cases rx
  obtain ⟨u, rfl, ru⟩ := rv.one
  obtain ⟨z, its, n, r, hl, e⟩ := I.lstM hH
  refine call_meets F.slot_list_append ⟨_, e, rfl⟩ F.entry_list_append (F.args_list_append_2 _ _) (PySem.list_append l its.toArray n u (by rw [List.size_toArray]; omega)) ⟨e, ?_⟩
  refine ⟨.non, _, I.lset (its' := its ++ [u]) hH e (by simp) (r.append (.cons ru .nil)) ?_, rfl, q⟩
  rw [List.length_append, List.length_singleton]
  omega
end
section
variable {prog : Program} {w : World} {A : Around} {E : Value → Shared → Prop} {s : Shared}
end
section
variable {X : Cx}
end
end L2
namespace Att
open PySem PySem.W PySem.Calls PyProof.Rows
theorem ints_of_wellAll {P : Params} {h : Heap} : ∀ (ns : List Int) (vs : List Value), WellAll P h vs (ns.map WData.int) → IntsAre vs ns := by
  intro ns
  induction ns with
  | nil =>
    intro vs w
    rw [List.map_nil] at w
    cases w
    exact .nil
  | cons n ns ih =>
    intro vs w
    rw [List.map_cons] at w
    cases w with
    | cons a b =>
      cases a
      exact .cons _ _ (ih _ b)
theorem script_of {l : OpenLaw} {n : Nat} (hn : l.most = some n) {P : Params} {h : Heap} {args : List WData} {vals : List Value}
    (hpre : l.row.toRowW.claim.pre args = true) (hwl : WellAll P h vals args) :
    ∃ a vs ns, vals = [Value.ref a] ∧ args = [WData.list (ns.map WData.int)] ∧ h.get? a = some { cls := .type "list", data := .seq vs.toArray } ∧ IntsAre vs ns ∧ ns.length ≤ n := by
  have hsh : WShape.hasAll [] args [.list .int] = true := (pre_splitW hpre).1
  have hc : l.pre.holds [] { args := args } = true := (pre_splitW hpre).2
  obtain ⟨d, r, rfl, h1, h2⟩ := hasAllW_cons hsh
  obtain rfl := hasAllW_nil h2
  obtain ⟨xs, rfl, h3⟩ := hasW_list h1
  obtain ⟨ns, rfl⟩ := items_int h3
  have hlen : ns.length ≤ n := by
    unfold OpenLaw.pre at hc
    have h4 : (WTm.not (.lt (.lit (.int (n : Int))) (.len (.arg 0)))).holds [] { args := [.list (ns.map .int)] } = true := by
      have h4 := (holds_andW hc).1
      rw [hn] at h4
      exact h4
    have h5 := condW_of h4 (w_not (w_lt w_lit (w_len_list (w_arg rfl))))
    rw [List.length_map] at h5
    refine Nat.le_of_not_lt fun q => ?_
    have q' : (n : Int) < ((ns.length : Nat) : Int) := by omega
    first
      | (rw [decide_eq_true q'] at h5; exact absurd h5 (by decide))
      | (simp at h5; omega)
  cases hwl with
  | cons w1 w2 =>
    cases w2
    cases w1 with
    | list ho hall => exact ⟨_, _, ns, rfl, rfl, ho, ints_of_wellAll ns _ hall, hlen⟩
theorem post_true (l : OpenLaw) (args : List WData) : l.row.toRowW.claim.post args (.bool true) args = true :=
  postW_of (r := l.row.toRowW) (X := (true == true))
    (show WShape.has [] (.bool true) .bool = true by first | rfl | decide | simp [WShape.has, WShape.arms, WShape.armsAll])
    (show (WTm.eq .res (.lit (.bool true))).value [] { args := args, res := some (.bool true), after := args } = some (.bool (true == true)) from w_eq_bool (w_res rfl) w_lit) rfl
section
variable {prog : Program} {w : World} {A : Around} {E : Value → Shared → Prop} {s : Shared} {K : Frag}
end
end Att
namespace L2
open PySem PySem.Spec PyProof.Rows
theorem vals_ints : ∀ {vs : List Value} {ns : List Int}, IntsAre vs ns → Vals (ns.map V.int) vs
  | _, _, .nil => .nil
  | _, _, .cons n t h => .cons ⟨t, rfl⟩ (vals_ints h)
def Only (H : Hp) : Prop := ∀ b, H b = none ∨ ∃ o xs, H b = some (.frz o (.lst xs))
theorem law_call {P : Program} {w : World} {K : PySem.W.Frag} {mg mb : Str → Option Value} {CX : CXT} {k : Nat} {fa a : Addr} {fd : FuncData} {x : Str} {sp : Sp} {s₁ : Shared} {vs : List Value} {ns : List Int}
    (KX : K.In s₁.heap) (hns : s₁.heap.Ns mainGlobals mg) (hb : s₁.heap.Ns builtinsNs mb) (hbb : ∀ x : Str, x ≠ "__name__" → mb x = bootBuiltins x) (hlim : s₁.heap.NoLimit) (hg : s₁.gens = #[])
    (ha : s₁.heap.get? a = some { cls := .type "list", data := .seq vs.toArray }) (hi : IntsAre vs ns) (hl : ns.length ≤ sizeLine) (hr : Room k callerA)
    (F : ∀ base : Heap, K.In base → base.Ns mainGlobals mg → FnOk P w K mg base CX k fa fd [x] sp) (hbind : ∀ (s : Shared) (u : Value), BindsTo s fd ⟨[u], []⟩ [(x, u)])
    (hsp : ∀ H : Hp, Only H → SqL K H a (ns.map V.int) → sp [.ref a] H (fun v _ => v = .bl true) fun _ _ _ => False)
    (hCX : ∀ H e s', CX [] H s₁ (fun _ _ _ => False) e s' → False) :
    codeAny (model P w) callerA (.call (.ref fa) ⟨[.ref a], []⟩) (fun r s' => r = .ok (.ret (.bool true)) ∧ OldK s₁.heap s'.heap ∧ s'.os = s₁.os ∧ AllBare s'.gens) s₁ := by
  have rv := vals_ints hi
  have lenV := hi.length
  have core : ∀ H : Hp, Only H → SqL K H a (ns.map V.int) → HOk P w H s₁.heap → (∀ b, H b ≠ none → b = a) → (H a ≠ none → K.lookup a = none) →
      codeAny (model P w) callerA (.call (.ref fa) ⟨[.ref a], []⟩) (fun r s' => r = .ok (.ret (.bool true)) ∧ OldK s₁.heap s'.heap ∧ s'.os = s₁.os ∧ AllBare s'.gens) s₁ := by
    intro H hO hS hok hA hK
    have base_of : ∀ {b : Addr} {o : Obj}, s₁.heap.get? b = some o → H b = none → (hidT s₁.heap H).get? b = some o := fun e n => hidT_get e n
    have noA : ∀ {b : Addr} {o : Obj} {es : Array DictEntry} {ep : Nat}, s₁.heap.get? b = some o → o.data = .dict es ep → H b = none := fun {b o es ep} e d => by
      cases q : H b with
      | none => rfl
      | some u =>
        have e' : b = a := hA b (by rw [q]; simp)
        subst e'
        rw [ha] at e; cases e
        have d' : Data.seq vs.toArray _ = Data.dict es ep := d
        cases d'
    have nsK : ∀ {b : Addr} {m : Str → Option Value}, s₁.heap.Ns b m → (hidT s₁.heap H).Ns b m := fun {b m} ⟨o, es, ep, e, d, r⟩ => ⟨o, es, ep, base_of e (noA e d), d, r⟩
    have hKb : K.In (hidT s₁.heap H) := fun b o e => base_of (KX b o e) (by
      cases q : H b with
      | none => rfl
      | some u =>
        have e' : b = a := hA b (by rw [q]; simp)
        subst e'
        rw [hK (by rw [q]; simp)] at e; cases e)
    have hM : Mod K mg (hidT s₁.heap H) := ⟨hKb, nsK hns, ⟨mb, nsK hb, hbb⟩, let ⟨mc, h1, h2⟩ := hlim; ⟨mc, nsK h1, h2⟩⟩
    have e0 : Env0 P w K mg (hidT s₁.heap H) callerA [] s₁ H := ⟨rfl, hM, fun b o e => of_hidT e, Nat.le_of_eq (hidT_size _ _), trivial, fun b hb => absurd (show b ∈ ([] : List Addr) from hb) (by simp), hok, .of_eq hg⟩
    refine codeAny_mono ((F _ hKb (nsK hns)).run callerA [] s₁ H ⟨[.ref a], []⟩ [.ref a] [.ref a] _ _ hr e0 (hbind s₁ (.ref a)) (.cons rfl .nil) (hsp H hO hS)) fun r s' h => ?_
    cases r with
    | error e => exact (hCX H e s' h).elim
    | ok fl =>
      cases fl with
      | next => exact False.elim h
      | brk => exact False.elim h
      | cont => exact False.elim h
      | ret u =>
        obtain ⟨v, H', os, bare, un, hok', r', q⟩ := h
        have q' : v = .bl true := q
        subst q'
        obtain rfl : u = Value.bool true := r'
        refine ⟨rfl, OldK.of_keep fun b o e => ?_, os, bare⟩
        cases q : H b with
        | none => exact un.keep b o e q (by intro z; exact absurd (show b ∈ ([] : List Addr) from z) (by simp)) (by simp)
        | some u =>
          rcases hO b with z | ⟨ob, xs, z⟩
          · rw [q] at z; cases z
          · have z2 := un.frzs b ob _ z
            obtain ⟨e1, _⟩ := hok b _ z
            obtain ⟨e2, _⟩ := hok' b _ z2
            rw [e] at e1; cases e1
            exact e2
  cases hk : K.lookup a with
  | some o =>
    have e := KX a o hk
    rw [ha] at e
    cases e
    refine core (fun _ => none) (fun _ => .inl rfl) (.inr ⟨_, vs.toArray, _, hk, rfl, rfl, rfl, by rw [List.size_toArray, lenV]; exact hl, by simpa using rv⟩) (fun b u z => by have z' : (none : Option HO) = some u := z; cases z') (fun b z => absurd rfl z) fun z => absurd rfl z
  | none =>
    refine core (fun b => if b = a then some (.frz { cls := .type "list", data := .seq vs.toArray } (.lst (ns.map V.int))) else none) (fun b => ?_) (.inl (.inr ⟨{ cls := .type "list", data := .seq vs.toArray }, if_pos rfl⟩)) (fun b u z => ?_) (fun b z => ?_) fun _ => hk
    · by_cases hb : b = a
      · exact .inr ⟨_, _, if_pos hb⟩
      · exact .inl (if_neg hb)
    · by_cases hb : b = a
      · have z' := (if_pos hb).symm.trans z
        cases z'
        subst hb
        exact ⟨ha, by rw [List.length_map]; exact hl, vs, _, rv, ha⟩
      · have z' := (if_neg hb).symm.trans z
        cases z'
    · by_cases hb : b = a
      · exact hb
      · exact absurd (if_neg hb) z
end L2
namespace L2
open PySem PySem.Spec PyProof.Rows
end L2
namespace L2
open PySem PySem.Spec PyProof.Rows
def defArgs (s : Stmt) : Arguments := match s with
  | .FunctionDef _ a _ _ _ _ _ _ _ _ => a
  | _ => { posonlyargs := [], args := [], vararg := none, kwonlyargs := [], kw_defaults := [], kwarg := none, defaults := [] }
def defBody (s : Stmt) : List Stmt := match s with
  | .FunctionDef _ _ b _ _ _ _ _ _ _ => b
  | _ => []
def defScope (s : Stmt) : Scope := match s with
  | .FunctionDef _ _ _ _ _ _ sc _ _ _ => sc
  | _ => { kind := .function, names := [], isGenerator := false, isCoroutine := false }
abbrev CX0 : CXT := fun _ _ _ _ _ _ => False
abbrev E0 : XK := fun _ _ _ => False
theorem pass0 {X : Cx} : Passes CX0 X E0 := fun _ _ _ _ _ _ _ h => h.elim
structure Fun (K : PySem.W.Frag) (x qual : Str) (st : Stmt) (f : Addr) (fd : FuncData) : Prop where
  ex : ∃ (oc : Value) (od : Option Addr) (kV doc pm : Value) (an : Option Addr) (cdv ct : Value) (osl : Array (Option Value)),
    fd = PySem.W.fnOf x qual (defArgs st) (defBody st) (defScope st) .none kV doc pm an cdv ct ∧ K.lookup f = some ⟨oc, od, .func fd, osl⟩ ∧ PySem.W.codeIn K cdv qual = true
  kp : PySem.W.keepIn K (.ref f) = true
section
variable {P : Program} {w : World} {K : PySem.W.Frag} {mg : Str → Option Value} {base : Heap}
theorem Fun.ok {x qual : Str} {st : Stmt} {f : Addr} {fd : FuncData} {N ps : List Str} {k : Nat} {sp : Sp} (F : Fun K x qual st f fd) (S : FnScope N ps (defScope st)) (len : ∀ vs H Q E, sp vs H Q E → vs.length = ps.length)
    (hbody : ∀ (cdv : Value) (A : Around) (outer : List Env) (s : Shared) (H : Hp) (vs : List V) (Q : VK) (E : XK), Room k (A.deeper (envOfC qual (defScope st) s.heap.objs.size f cdv)) → sp vs H Q E →
      ∃ t, PSs (cxOf CX0 P w K mg base N qual (defScope st) f cdv A outer s H E).nox (defBody st) t ∧ t { nx := fun _ H' => Q .non H', rt := Q } (start N vs) H) : FnOk P w K mg base CX0 (k + 1) f fd ps sp := by
  obtain ⟨oc, od, kV, doc, pm, an, cdv, ct, osl, rfl, lk, hcd⟩ := F.ex
  refine fn_of lk hcd S len fun A outer s H vs Q E hr hsp => ?_
  obtain ⟨t, h, q⟩ := hbody cdv A outer s H vs Q E hr hsp
  exact ⟨t, h.nox, q⟩
theorem Fun.binds {x qual : Str} {st : Stmt} {f : Addr} {fd : FuncData} {ps : List Str} (F : Fun K x qual st f fd)
    (h : ∀ (kV doc pm : Value) (an : Option Addr) (cdv ct : Value) (us : List Value), us.length = ps.length → bindArgs (PySem.W.fnOf x qual (defArgs st) (defBody st) (defScope st) .none kV doc pm an cdv ct) ⟨us, []⟩ = pure (ps.zip us)) : Binds K fd ps [] := by
  obtain ⟨oc, od, kV, doc, pm, an, cdv, ct, osl, rfl, lk, hcd⟩ := F.ex
  exact .all (h kV doc pm an cdv ct)
theorem fun_mk {x qual : Str} {st : Stmt} {f : Addr} {oc : Value} {od an : Option Addr} {osl : Array (Option Value)} {kV doc pm cdv ct : Value} (l : K.lookup f = some ⟨oc, od, .func (PySem.W.fnOf x qual (defArgs st) (defBody st) (defScope st) .none kV doc pm an cdv ct), osl⟩)
    (c : PySem.W.codeIn K cdv qual = true) (k : PySem.W.keepIn K (.ref f) = true) : Fun K x qual st f (PySem.W.fnOf x qual (defArgs st) (defBody st) (defScope st) .none kV doc pm an cdv ct) := ⟨⟨oc, od, kV, doc, pm, an, cdv, ct, osl, rfl, l, c⟩, k⟩
end
section
variable {X : Cx}
theorem pv (i : Nat) {x : Str} {pos : Pos} (hN : X.N[i]? = some x := by rfl) (hv : Vis X.env.scope x := by first | exact Or.inl rfl | exact Or.inr (Or.inl rfl) | exact Or.inr (Or.inr rfl)) (hd : (x == ("__debug__" : Str)) = false := by decide)
    (hcd : (x == ("__classdict__" : Str)) = false := by decide) : PE X (.Name x pos) (tVar i) := pe_var hN hv hd hcd
end
def Same (H H' : Hp) : Prop := ∀ b o, H b = some o → H' b = some o
theorem Same.refl (H : Hp) : Same H H := fun _ _ h => h
theorem Same.trans {H H1 H2 : Hp} (a : Same H H1) (b : Same H1 H2) : Same H H2 := fun c o h => b c o (a c o h)
theorem Same.free {H H' : Hp} (e : Same H H') {l : Addr} (h : H' l = Option.none) : H l = Option.none := by
  cases q : H l with
  | none => rfl
  | some o =>
    rw [e l o q] at h
    cases h
theorem Same.seq {K : PySem.W.Frag} {H H' : Hp} {a : Addr} {xs : List V} (e : Same H H') (h : SqL K H a xs) : SqL K H' a xs := by
  rcases h with (h | ⟨o, h⟩) | h
  · exact .inl (.inl (e _ _ h))
  · exact .inl (.inr ⟨o, e _ _ h⟩)
  · exact .inr h
end L2
set_option Elab.async false
set_option linter.all false
set_option maxRecDepth 100000
namespace L2
open PySem PySem.Spec PyProof.Rows
section
variable {κ : Type} [DecidableEq κ]
def valV (kvs : List (κ × V)) (k : κ) : Option V := (kvs.find? fun kv => decide (kv.1 = k)).map (·.2)
def putK (kvs : List (κ × V)) (k : κ) (v : V) : List (κ × V) :=
  if (kvs.any fun kv => decide (kv.1 = k)) = true then kvs.map (fun kv => if kv.1 = k then (kv.1, v) else kv) else kvs ++ [(k, v)]
def dropK (kvs : List (κ × V)) (k : κ) : List (κ × V) := kvs.filter fun kv => decide (kv.1 ≠ k)
theorem valV_pos {p : κ × V} {r : List (κ × V)} {k : κ} (e : p.1 = k) : valV (p :: r) k = some p.2 := by simp [valV, List.find?_cons, e]
theorem valV_neg {p : κ × V} {r : List (κ × V)} {k : κ} (e : ¬ p.1 = k) : valV (p :: r) k = valV r k := by simp [valV, List.find?_cons, e]
theorem valV_any (k : κ) : ∀ kvs : List (κ × V), (kvs.any fun kv => decide (kv.1 = k)) = (valV kvs k).isSome
  | [] => rfl
  | p :: r => by
    rw [List.any_cons]
    by_cases e : p.1 = k
    · simp only [valV_pos e, decide_eq_true e, Bool.true_or, Option.isSome_some]
    · rw [valV_neg e, decide_eq_false e, Bool.false_or]; exact valV_any k r
theorem length_putK (kvs : List (κ × V)) (k : κ) (v : V) : (putK kvs k v).length ≤ kvs.length + 1 := by
  unfold putK
  split
  · rw [List.length_map]; omega
  · rw [List.length_append, List.length_cons, List.length_nil]; omega
theorem RelO.isSome_eq {o : Option V} {u : Option Value} (r : RelO o u) : o.isSome = u.isSome := by
  cases o with
  | none => cases u with
    | none => rfl
    | some _ => exact (show False from r).elim
  | some _ => cases u with
    | none => exact (show False from r).elim
    | some _ => rfl
theorem RelO.getD {o : Option V} {u : Option Value} {d : V} {d' : Value} (r : RelO o u) (rd : RelV d d') : RelV (o.getD d) (u.getD d') := by
  cases o with
  | none => cases u with
    | none => exact rd
    | some _ => exact (show False from r).elim
  | some _ => cases u with
    | none => exact (show False from r).elim
    | some _ => exact r
theorem KV.val {kvs : List (κ × V)} {vs : List (κ × Value)} (r : KV kvs vs) (k : κ) : RelO (valV kvs k) (valueAt vs k) := by
  unfold KV at r
  induction r with
  | nil => exact True.intro
  | @cons p q ps qs h t ih =>
    obtain ⟨h1, h2⟩ := h
    by_cases e : p.1 = k
    · have e' : q.1 = k := h1.symm.trans e
      have b : valueAt (q :: qs) k = some q.2 := by simp [valueAt, List.find?_cons, e']
      rw [valV_pos e, b]; exact h2
    · have e' : ¬ q.1 = k := fun z => e (h1.trans z)
      have b : valueAt (q :: qs) k = valueAt qs k := by simp [valueAt, List.find?_cons, e']
      rw [valV_neg e, b]; exact ih
theorem KV.any {kvs : List (κ × V)} {vs : List (κ × Value)} (r : KV kvs vs) (k : κ) : (kvs.any fun kv => decide (kv.1 = k)) = vs.any fun kv => decide (kv.1 = k) := by
  unfold KV at r
  induction r with
  | nil => rfl
  | cons h t ih => rw [List.any_cons, List.any_cons, ih, h.1]
theorem KV.repl {kvs : List (κ × V)} {vs : List (κ × Value)} (r : KV kvs vs) (k : κ) {y : V} {u : Value} (ry : RelV y u) :
    KV (kvs.map fun kv => if kv.1 = k then (kv.1, y) else kv) (vs.map fun kv => if kv.1 = k then (kv.1, u) else kv) := by
  unfold KV at r ⊢
  induction r with
  | nil => exact .nil
  | @cons p q ps qs h t ih =>
    rw [List.map_cons, List.map_cons]
    refine .cons ?_ ih
    obtain ⟨h1, h2⟩ := h
    by_cases e : p.1 = k
    · rw [if_pos e, if_pos (h1.symm.trans e)]; exact ⟨h1, ry⟩
    · rw [if_neg e, if_neg (fun z => e (h1.trans z))]; exact ⟨h1, h2⟩
theorem KV.put {kvs : List (κ × V)} {vs : List (κ × Value)} (r : KV kvs vs) (k : κ) {y : V} {u : Value} (ry : RelV y u) : KV (putK kvs k y) (stored vs k u) := by
  unfold putK stored
  rw [r.any k]
  by_cases e : (vs.any fun kv => decide (kv.1 = k)) = true
  · rw [if_pos e, if_pos e]; exact r.repl k ry
  · rw [if_neg e, if_neg e]; exact Paired.snoc r ⟨rfl, ry⟩
theorem KV.drop {kvs : List (κ × V)} {vs : List (κ × Value)} (r : KV kvs vs) (k : κ) : KV (dropK kvs k) (without vs k) := by
  unfold KV at r ⊢
  unfold dropK without
  induction r with
  | nil => exact .nil
  | @cons p q ps qs h t ih =>
    obtain ⟨h1, h2⟩ := h
    rw [List.filter_cons, List.filter_cons]
    by_cases e : p.1 = k
    · have a : ¬ decide (p.1 ≠ k) = true := by simp [e]
      have b : ¬ decide (q.1 ≠ k) = true := by simp [h1.symm.trans e]
      rw [if_neg a, if_neg b]; exact ih
    · have e' : ¬ q.1 = k := fun z => e (h1.trans z)
      have a : decide (p.1 ≠ k) = true := by simp [e]
      have b : decide (q.1 ≠ k) = true := by simp [e']
      rw [if_pos a, if_pos b]; exact .cons ⟨h1, h2⟩ ih
theorem KV.keys {kvs : List (κ × V)} {vs : List (κ × Value)} (r : KV kvs vs) : kvs.map (·.1) = vs.map (·.1) := by
  unfold KV at r
  induction r with
  | nil => rfl
  | cons h t ih => rw [List.map_cons, List.map_cons, ih, h.1]
theorem KV.length {kvs : List (κ × V)} {vs : List (κ × Value)} (r : KV kvs vs) : kvs.length = vs.length := Paired.length r
end
theorem kV_is {P : Program} {w : World} {k : Key} {u : Value} (r : RelV (kV k) u) : (mixKind P w).is k u = true := by
  cases k with
  | inl i => obtain ⟨t, e⟩ := (show ∃ t, u = Value.int i t from r); subst e; exact mixKind_int P w i t
  | inr x => obtain ⟨t, e⟩ := (show ∃ t, u = Value.str x t from r); subst e; exact mixKind_str P w x t
theorem items_are {P : Program} {w : World} : ∀ {ks : List Key} {us : List Value}, Vals (ks.map kV) us → ItemsAre (mixKind P w) ks us
  | [], _, r => by rw [List.map_nil] at r; cases r; exact .nil
  | k :: ks, _, r => by
    rw [List.map_cons] at r
    cases r with
    | cons h t => exact .cons (kV_is h) (items_are t)
abbrev KT (H : Hp) : List (List Key × V) → List (List Key × Addr × Value) → Prop := Paired fun p q => p.1 = q.1 ∧ H q.2.1 = some (.tup (p.1.map kV)) ∧ RelV p.2 q.2.2
theorem KT.val {H : Hp} {kvs : List (List Key × V)} {xs : List (List Key × Addr × Value)} (r : KT H kvs xs) (k : List Key) : RelO (valV kvs k) ((atKey xs k).map (·.2)) := by
  induction r with
  | nil => exact True.intro
  | @cons p q ps qs h t ih =>
    obtain ⟨h1, _, h2⟩ := h
    by_cases e : p.1 = k
    · have e' : q.1 = k := h1.symm.trans e
      have b : atKey (q :: qs) k = some q.2 := by simp [atKey, List.find?_cons, e']
      rw [valV_pos e, b]; exact h2
    · have e' : ¬ q.1 = k := fun z => e (h1.trans z)
      have b : atKey (q :: qs) k = atKey qs k := by simp [atKey, List.find?_cons, e']
      rw [valV_neg e, b]; exact ih
theorem KT.repl {H : Hp} {kvs : List (List Key × V)} {xs : List (List Key × Addr × Value)} (r : KT H kvs xs) (k : List Key) {y : V} {u : Value} (ry : RelV y u) :
    KT H (kvs.map fun kv => if kv.1 = k then (kv.1, y) else kv) (xs.map (putAt k u)) := by
  induction r with
  | nil => exact .nil
  | @cons p q ps qs h t ih =>
    rw [List.map_cons, List.map_cons]
    refine .cons ?_ ih
    obtain ⟨h1, h2, h3⟩ := h
    unfold putAt
    by_cases e : p.1 = k
    · rw [if_pos e, if_pos (h1.symm.trans e)]; exact ⟨h1, h2, ry⟩
    · rw [if_neg e, if_neg (fun z => e (h1.trans z))]; exact ⟨h1, h2, h3⟩
theorem KT.put {H : Hp} {kvs : List (List Key × V)} {xs : List (List Key × Addr × Value)} (r : KT H kvs xs) (k : List Key) {b : Addr} {y : V} {u : Value} (hb : H b = some (.tup (k.map kV))) (ry : RelV y u) :
    KT H (putK kvs k y) (storedH xs k b u) := by
  have e : (kvs.any fun kv => decide (kv.1 = k)) = (atKey xs k).isSome := by
    rw [valV_any, (r.val k).isSome_eq, Option.isSome_map]
  unfold putK storedH
  rw [e]
  by_cases q : (atKey xs k).isSome = true
  · rw [if_pos q, if_pos q]; exact r.repl k ry
  · rw [if_neg q, if_neg q]; exact Paired.snoc r ⟨rfl, hb, ry⟩
theorem KT.keeps {H H' : Hp} {kvs : List (List Key × V)} {xs : List (List Key × Addr × Value)} (r : KT H kvs xs) (ht : ∀ b ys, H b = some (.tup ys) → H' b = some (.tup ys)) : KT H' kvs xs :=
  Paired.mapP r fun _ _ z => ⟨z.1, ht _ _ z.2.1, z.2.2⟩
section
variable {P : Program} {w : World} {H : Hp} {h : Heap} {a : Addr}
theorem rd_of {u : HO} (ok : HOk P w H h) (e : Rd H a u) : ObjOk P w H h a u := e.ok ok
theorem dk_rd {kvs : List (Key × V)} (ok : HOk P w H h) (e : Rd H a (.dK kvs)) : kvs.length ≤ sizeLine ∧ (a == sysModules) = false ∧ ∃ vs, KV kvs vs ∧ h.DictOf (mixKind P w) a vs :=
  show ObjOk P w H h a (.dK kvs) from rd_of ok e
theorem dk_of {kvs : List (Key × V)} (ok : HOk P w H h) (e : H a = some (.dK kvs)) : kvs.length ≤ sizeLine ∧ (a == sysModules) = false ∧ ∃ vs, KV kvs vs ∧ h.DictOf (mixKind P w) a vs := dk_rd ok (.inl e)
theorem key_of {ks : List Key} (ok : HOk P w H h) (e : H a = some (.tup (ks.map kV))) : (tupleKind (mixKind P w)).is h ks a := by
  obtain ⟨_, its, r, o, h1, h2, n, h3⟩ := (show ObjOk P w H h a (.tup (ks.map kV)) from ok a _ e)
  exact ⟨o, its.toArray, n, h1, h2, h3, by simpa using items_are r⟩
theorem dt_rd {kvs : List (List Key × V)} (ok : HOk P w H h) (e : Rd H a (.dT kvs)) : kvs.length ≤ sizeLine ∧ (a == sysModules) = false ∧
    ∃ xs, KT H kvs xs ∧ h.DictOfH (tupleKind (mixKind P w)) a xs := by
  obtain ⟨z, y, xs, r, o, es, ep, h1, h2, h3, h4, h5⟩ := (show ObjOk P w H h a (.dT kvs) from rd_of ok e)
  refine ⟨z, y, xs, r, o, es, ep, h1, h2, h3, h4, fun x hx => ?_, h5⟩
  have all : ∀ {l : List (List Key × V)} {m : List (List Key × Addr × Value)}, KT H l m → ∀ x ∈ m, (tupleKind (mixKind P w)).is h x.1 x.2.1 := by
    intro l m q
    induction q with
    | nil => intro x hx; exact nomatch hx
    | @cons p q ps qs hq t ih =>
      intro x hx
      rcases List.mem_cons.mp hx with e | hx
      · subst e
        exact key_of ok (by rw [← hq.1]; exact hq.2.1)
      · exact ih x hx
  exact all r x hx
theorem dt_of {kvs : List (List Key × V)} (ok : HOk P w H h) (e : H a = some (.dT kvs)) : kvs.length ≤ sizeLine ∧ (a == sysModules) = false ∧
    ∃ xs, KT H kvs xs ∧ h.DictOfH (tupleKind (mixKind P w)) a xs := dt_rd ok (.inl e)
end
def DGet (H : Hp) (a : Addr) (y : V) (r : Option V) : Prop :=
  (∃ kvs k, Rd H a (.dK kvs) ∧ y = kV k ∧ r = valV kvs k) ∨ ∃ kvs k b, Rd H a (.dT kvs) ∧ y = .ref b ∧ H b = some (.tup (k.map kV)) ∧ r = valV kvs k
def DPut (H : Hp) (a : Addr) (y v : V) (H' : Hp) : Prop :=
  (∃ kvs k, H a = some (.dK kvs) ∧ y = kV k ∧ kvs.length < sizeLine ∧ H' = upd H a (.dK (putK kvs k v))) ∨
  ∃ kvs k b, H a = some (.dT kvs) ∧ y = .ref b ∧ H b = some (.tup (k.map kV)) ∧ kvs.length < sizeLine ∧ H' = upd H a (.dT (putK kvs k v))
theorem DGet.k {H : Hp} {a : Addr} {kvs : List (Key × V)} {k : Key} (e : H a = some (.dK kvs)) : DGet H a (kV k) (valV kvs k) := .inl ⟨kvs, k, .inl e, rfl, rfl⟩
theorem DGet.t {H : Hp} {a b : Addr} {kvs : List (List Key × V)} {k : List Key} (e : H a = some (.dT kvs)) (eb : H b = some (.tup (k.map kV))) : DGet H a (.ref b) (valV kvs k) := .inr ⟨kvs, k, b, .inl e, rfl, eb, rfl⟩
theorem DPut.k {H : Hp} {a : Addr} {kvs : List (Key × V)} {k : Key} {v : V} (e : H a = some (.dK kvs)) (hl : kvs.length < sizeLine) : DPut H a (kV k) v (upd H a (.dK (putK kvs k v))) := .inl ⟨kvs, k, e, rfl, hl, rfl⟩
theorem DPut.t {H : Hp} {a b : Addr} {kvs : List (List Key × V)} {k : List Key} {v : V} (e : H a = some (.dT kvs)) (eb : H b = some (.tup (k.map kV))) (hl : kvs.length < sizeLine) :
    DPut H a (.ref b) v (upd H a (.dT (putK kvs k v))) := .inr ⟨kvs, k, b, e, rfl, eb, hl, rfl⟩
section
variable {X : Cx} {pins : List (Addr × Obj)} {σ : St} {H : Hp} {s : Shared} {a : Addr} {y v : V} {u r : Value} {o : Option V} {A : Around} {E : Value → Shared → Prop}
theorem Inv.big (I : Inv X pins σ H s) : sysModules < s.heap.objs.size := by
  have h : mainGlobals < s.heap.objs.size := (I.mod.glob.keeps I.bk).lt
  exact Nat.lt_trans (by decide) h
theorem d_write {h' : Heap} {t' : Nat} {ob : HO} (I : Inv X pins σ H s) (mu : Mut (H a)) (hs : Heap.SameBut a s.heap h') (he : ∃ q, h'.get? a = some q) (new : ObjOk X.prog X.w (upd H a ob) h' a ob) :
    Inv X pins σ (upd H a ob) { s with heap := h', toks := t' } :=
  I.write (x := a) (e := a) mu (.inl rfl) (fun b q hb z => (hs.2 b hb).trans z) he new
end
section
variable {X : Cx} {pins : List (Addr × Obj)} {σ : St} {H : Hp} {s : Shared} {a : Addr} {kvs : List (Key × V)} {k : Key} {u : Value} {A : Around} {E : Value → Shared → Prop}
end
def NoSl (i : Expr) : Prop := ∀ ov iv, subscripted i false ov iv = operate [ov, iv] (getItem ov iv)
theorem subD_of {prog : Program} {w : World} {A : Around} {E : Value → Shared → Prop} {s : Shared} {env : Env} {value slice : Expr} {pos : Pos} {T id : String} {Q : Value → Shared → Prop}
    (hl : typeLookup (.type T) "__getitem__" = pure (some (.builtin id))) (hs : NoSl slice)
    (h : wpAny (model prog w) A (eval value env) (fun o s₁ => wpAny (model prog w) A (eval slice env) (fun i s₂ => s₂.TypeIs o T ∧ wpAny (model prog w) A (getItem o i) Q E s₂) E s₁) E s) :
    wpAny (model prog w) A (eval (.Subscript value slice pos) env) Q E s := by
  refine Subscript_ (wpAny_mono h (fun o s₁ h₁ => wpAny_mono h₁ (fun i s₂ h₂ => ?_) fun _ _ x => x) fun _ _ x => x)
  obtain ⟨hT, h₂⟩ := h₂
  unfold subscriptTail
  refine wpAny_bind ?_
  rw [getitemInPython_of_ne hT.not_modules]
  refine wpAny_bind (wpAny_specialOf hT hl ?_)
  have fin : wpAny (model prog w) A (subscripted slice false o i) (fun r s₃ => wpAny (model prog w) A (letTemporaryGo value o r >>= fun _ => pure r) Q E s₃) E s₂ := by
    rw [hs o i]
    exact wpAny_operating (wpAny_mono h₂ (fun r s₃ h₃ => wpAny_bind (wpAny_letTemporaryGo (wpAny_pure h₃))) fun _ _ x => x)
  first
    | exact wpAny_pure (wpAny_bind fin)
    | exact wpAny_bind (wpAny_pure (wpAny_bind fin))
    | exact wpAny_bind fin
section
variable {X : Cx} {o i e value : Expr} {pos pos' tpos : Pos} {td ty tv : TE}
end
theorem dk_empty {P : Program} {w : World} {H : Hp} (h : Heap) (hb : sysModules < h.objs.size) : ObjOk P w H (h.push { cls := .type "dict", data := .dict #[] }) h.objs.size (.dK []) :=
  ⟨Nat.zero_le _, beq_eq_false_iff_ne.mpr (Ne.symm (Nat.ne_of_lt hb)), [], .nil, Heap.DictOf.new h⟩
section
variable {X : Cx} {pos : Pos}
end
def tPairs : List (TE × TE) → St → Hp → (List (V × V) → Hp → Prop) → Prop
  | [], _, H, Q => Q [] H
  | (tk, tv) :: r, σ, H, Q => tk σ H fun x H1 => tv σ H1 fun y H2 => tPairs r σ H2 fun ps H3 => Q ((x, y) :: ps) H3
abbrev VV : List (V × V) → List (Value × Value) → Prop := Paired fun p q => RelV p.1 q.1 ∧ RelV p.2 q.2
def PPs (X : Cx) (pos : Pos) (keys : List (Option Expr)) (values : List Expr) (trs : List (TE × TE)) : Prop :=
  ∀ (pins : List (Addr × Obj)) (s : Shared) (σ : St) (H : Hp) (Q : List (V × V) → Hp → Prop), Inv X pins σ H s → tPairs trs σ H Q →
    wpAny (model X.prog X.w) X.A (evalPairs (pairTrees keys values X.env pos)) (fun vs s' => ∃ ps H', Inv X pins σ H' s' ∧ VV ps vs ∧ Q ps H') X.xe s
theorem pps_nil {X : Cx} {pos : Pos} : PPs X pos [] [] [] := fun pins s σ H Q I h => pairTrees_nil_walk ⟨[], H, I, .nil, h⟩
theorem pps_cons {X : Cx} {pos : Pos} {k v : Expr} {ks : List (Option Expr)} {vs : List Expr} {tk tv : TE} {trs : List (TE × TE)} (hk : PE X k tk) (hv : PE X v tv) (hr : PPs X pos ks vs trs) :
    PPs X pos (some k :: ks) (v :: vs) ((tk, tv) :: trs) := fun pins s σ H Q I h =>
  pairTrees_cons_walk (thn (hk pins s σ H _ I h) fun u s1 ⟨x, H1, I1, rx, q1⟩ => thn (hv pins s1 σ H1 _ I1 q1) fun w2 s2 ⟨y, H2, I2, ry, q2⟩ =>
    thn (hr pins s2 σ H2 _ I2 q2) fun ws s3 ⟨ps, H3, I3, rel, q3⟩ => ⟨(x, y) :: ps, H3, I3, .cons ⟨rx, ry⟩ rel, q3⟩)
def mergeK (kvs more : List (Key × V)) : List (Key × V) := more.foldl (fun acc kv => putK acc kv.1 kv.2) kvs
theorem KV.merge : ∀ {more : List (Key × V)} {rs : List (Key × Value)} {kvs : List (Key × V)} {vs : List (Key × Value)}, KV more rs → KV kvs vs → KV (mergeK kvs more) (merged vs rs) := by
  intro more rs kvs vs r
  unfold KV at r
  induction r generalizing kvs vs with
  | nil => intro q; exact q
  | @cons p q ps qs h t ih =>
    intro r0
    have e : KV (putK kvs p.1 p.2) (stored vs q.1 q.2) := by
      have := r0.put p.1 h.2
      rw [← h.1]; exact this
    exact ih e
theorem carries_of {P : Program} {w : World} : ∀ {kvs : List (Key × V)} {ws : List (Value × Value)}, VV (kvs.map fun kv => (kV kv.1, kv.2)) ws → ∃ rs, Carries (mixKind P w) ws rs ∧ KV kvs rs
  | [], _, r => by rw [List.map_nil] at r; cases r; exact ⟨[], True.intro, .nil⟩
  | p :: kvs, _, r => by
    rw [List.map_cons] at r
    cases r with
    | @cons a b as bs h t =>
      obtain ⟨rs, c, q⟩ := carries_of (P := P) (w := w) t
      obtain ⟨b1, b2⟩ := b
      exact ⟨(p.1, b2) :: rs, ⟨kV_is h.1, rfl, c⟩, .cons ⟨rfl, h.2⟩ q⟩
structure M1 (X : Cx) (o : Expr) (m : Str) (apos : Pos) (e : Expr) (cpos : Pos) : Prop where
  base : attributeBase o m X.env (eval o X.env) = eval o X.env
  few : ((backTo cpos (starEach [e] X.env)).all (fun x => !x.1) && (backToKw cpos (keywordEach [] X.env)).all (fun x => x.1.isSome)
    && decide (([e] : List Expr).length + ([] : List Keyword).length + (if ([] : List Keyword).isEmpty then 0 else 1) < 30)) = true
  line : (apos.endLine == cpos.line) = true
  trees : backTo cpos (starEach [e] X.env) = [(false, eval e X.env)]
structure M2 (X : Cx) (o : Expr) (m : Str) (apos : Pos) (e f : Expr) (cpos : Pos) : Prop where
  base : attributeBase o m X.env (eval o X.env) = eval o X.env
  few : ((backTo cpos (starEach [e, f] X.env)).all (fun x => !x.1) && (backToKw cpos (keywordEach [] X.env)).all (fun x => x.1.isSome)
    && decide (([e, f] : List Expr).length + ([] : List Keyword).length + (if ([] : List Keyword).isEmpty then 0 else 1) < 30)) = true
  line : (apos.endLine == cpos.line) = true
  trees : backTo cpos (starEach [e, f] X.env) = [(false, eval e X.env), (false, eval f X.env)]
section
variable {X : Cx} {pins : List (Addr × Obj)} {σ : St} {H : Hp} {s : Shared} {a : Addr} {y d : V} {u r : Value} {o : Option V} {A : Around} {E : Value → Shared → Prop}
end
section
variable {X : Cx} {o e f : Expr} {apos cpos : Pos} {td ty tx : TE}
end
section
variable {X : Cx} {pins : List (Addr × Obj)} {σ : St} {H : Hp} {s : Shared} {a : Addr} {kvs : List (Key × V)} {A : Around} {E : Value → Shared → Prop}
end
section
variable {X : Cx} {pins : List (Addr × Obj)} {σ : St} {H : Hp} {s : Shared} {a : Addr} {y : V} {u : Value} {A : Around} {E : Value → Shared → Prop}
end
end L2
set_option Elab.async false
set_option linter.all false
set_option maxRecDepth 100000
set_option maxHeartbeats 4000000
namespace BF
open PySem L2
abbrev DX (a : Addr) (x : Nat × List (Key × V)) : HO := .ext fun h => x.2.length ≤ sizeLine ∧ (a == sysModules) = false ∧ ∃ vs, KV x.2 vs ∧ ∀ (P : Program) (w : World), h.DictAt (mixKind P w) a vs x.1
theorem dx_ok {P : Program} {w : World} {H : Hp} {h : Heap} {a : Addr} {x : Nat × List (Key × V)} (l : x.2.length ≤ sizeLine) (hd : (a == sysModules) = false) {vs : List (Key × Value)} (r : KV x.2 vs) (q : ∀ (P : Program) (w : World), h.DictAt (mixKind P w) a vs x.1) : ObjOk P w H h a (DX a x) :=
  ⟨⟨l, hd, vs, r, q⟩, (let ⟨o, _, ho, _⟩ := q P w; ⟨o, ho⟩), fun h1 h2 ⟨l, hd, vs, r, q⟩ k => ⟨l, hd, vs, r, fun P w => let ⟨o, es, ho, z⟩ := q P w; ⟨o, es, k o ho, z⟩⟩⟩
theorem pairs_any {P P' : Program} {w w' : World} : ∀ {es : List DictEntry} {vs : List (Key × Value)}, Pairs (mixKind P w) es vs → Pairs (mixKind P' w') es vs
  | _, _, .nil => .nil
  | _, _, .cons h1 h2 t => .cons h1 h2 (pairs_any t)
theorem pairs_key {P : Program} {w : World} : ∀ {es : List DictEntry} {vs : List (Key × Value)}, Pairs (mixKind P w) es vs → ∀ e ∈ es, ∃ kv ∈ vs, keyIs kv.1 e.key = true
  | _, _, .nil, e, he => by cases he
  | _, _, .cons h1 h2 t, e, he => by
    rcases List.mem_cons.mp he with rfl | he
    · exact ⟨_, List.mem_cons_self, h1⟩
    · obtain ⟨kv, hk, q⟩ := pairs_key t e he
      exact ⟨kv, List.mem_cons_of_mem _ hk, q⟩
theorem dx_of {P : Program} {w : World} {h : Heap} {a : Addr} {vs : List (Key × Value)} (hi : ∀ kv ∈ vs, ∃ i, kv.1 = Sum.inl i) (q : h.DictOf (mixKind P w) a vs) : ∃ ep, ∀ (P : Program) (w : World), h.DictAt (mixKind P w) a vs ep := by
  obtain ⟨o, es, ep, ho, hx, hd, hk, hp, hn⟩ := q
  refine ⟨ep, fun P' w' => ⟨o, es, ho, hx, hd, fun e he => ?_, pairs_any hp, hn⟩⟩
  obtain ⟨k, h1, h2⟩ := hk e he
  obtain ⟨kv, hm, h3⟩ := pairs_key hp e (by simpa using he)
  obtain ⟨i, hi⟩ := hi kv hm
  have e1 : k = kv.1 := (mixKind P w).inj e.key k kv.1 h1 h3
  rw [hi] at e1
  subst e1
  exact ⟨_, h1, h2⟩
inductive Dm where
  | non | bl (b : Bool) | int (i : Int) | str (x : Str) | lst (ds : List Dm) | tup (ds : List Dm) | dct (ks : List Int) (ds : List Dm)
  deriving Inhabited
mutual
def Rep (K : PySem.W.Frag) (G : Hp) : Dm → V → Prop
  | .non, v => v = .non
  | .bl b, v => v = .bl b
  | .int i, v => v = .int i
  | .str x, v => v = .str x
  | .lst ds, v => ∃ a xs, v = .ref a ∧ SqL K G a xs ∧ Reps K G ds xs
  | .tup ds, v => ∃ a xs, v = .ref a ∧ SqT K G a xs ∧ Reps K G ds xs
  | .dct ks ds, v => ∃ a kvs, v = .ref a ∧ G a = some (DX a kvs) ∧ kvs.2.map (·.1) = ks.map Sum.inl ∧ Reps K G ds (kvs.2.map (·.2))
def Reps (K : PySem.W.Frag) (G : Hp) : List Dm → List V → Prop
  | [], xs => xs = []
  | d :: ds, xs => ∃ v r, xs = v :: r ∧ Rep K G d v ∧ Reps K G ds r
end
theorem Same.seqT {K : PySem.W.Frag} {H H' : Hp} {a : Addr} {xs : List V} (e : Same H H') (h : SqT K H a xs) : SqT K H' a xs := by
  rcases h with h | h
  · refine .inl ?_
    rcases h with h | ⟨o, h⟩
    · exact .inl (e _ _ h)
    · exact .inr ⟨o, e _ _ h⟩
  · exact .inr h
mutual
theorem Rep.mono {K : PySem.W.Frag} {G G' : Hp} (s : Same G G') : ∀ {d : Dm} {v : V}, Rep K G d v → Rep K G' d v
  | .non, v, h => by unfold Rep at h ⊢; exact h
  | .bl b, v, h => by unfold Rep at h ⊢; exact h
  | .int i, v, h => by unfold Rep at h ⊢; exact h
  | .str x, v, h => by unfold Rep at h ⊢; exact h
  | .lst ds, v, h => by
    unfold Rep at h ⊢
    obtain ⟨a, xs, e, q, r⟩ := h
    exact ⟨a, xs, e, s.seq q, Reps.mono s r⟩
  | .tup ds, v, h => by
    unfold Rep at h ⊢
    obtain ⟨a, xs, e, q, r⟩ := h
    exact ⟨a, xs, e, Same.seqT s q, Reps.mono s r⟩
  | .dct ks ds, v, h => by
    unfold Rep at h ⊢
    obtain ⟨a, kvs, e, q, kk, r⟩ := h
    exact ⟨a, kvs, e, s _ _ q, kk, Reps.mono s r⟩
theorem Reps.mono {K : PySem.W.Frag} {G G' : Hp} (s : Same G G') : ∀ {ds : List Dm} {xs : List V}, Reps K G ds xs → Reps K G' ds xs
  | [], xs, h => by unfold Reps at h ⊢; exact h
  | d :: ds, xs, h => by
    unfold Reps at h ⊢
    obtain ⟨v, r, e, q, t⟩ := h
    exact ⟨v, r, e, Rep.mono s q, Reps.mono s t⟩
end
section
variable {K : PySem.W.Frag} {G : Hp}
theorem Reps.nil : Reps K G [] [] := by unfold Reps; rfl
theorem Reps.cons {d : Dm} {v : V} {ds : List Dm} {xs : List V} (h : Rep K G d v) (t : Reps K G ds xs) : Reps K G (d :: ds) (v :: xs) := by unfold Reps; exact ⟨v, xs, rfl, h, t⟩
theorem Reps.length : ∀ {ds : List Dm} {xs : List V}, Reps K G ds xs → ds.length = xs.length
  | [], xs, h => by unfold Reps at h; subst h; rfl
  | d :: ds, xs, h => by
    unfold Reps at h
    obtain ⟨v, r, e, q, t⟩ := h
    rw [e, List.length_cons, List.length_cons, Reps.length t]
theorem Reps.get : ∀ {ds : List Dm} {xs : List V} {i : Nat} {d : Dm}, Reps K G ds xs → ds[i]? = some d → ∃ v, xs[i]? = some v ∧ Rep K G d v
  | [], xs, i, d, h, e => by simp at e
  | c :: ds, xs, i, d, h, e => by
    unfold Reps at h
    obtain ⟨v, r, e1, q, t⟩ := h
    subst e1
    cases i with
    | zero => simp at e; subst e; exact ⟨v, rfl, q⟩
    | succ i => exact Reps.get (i := i) t (by simpa using e)
theorem Reps.append : ∀ {ds es : List Dm} {xs ys : List V}, Reps K G ds xs → Reps K G es ys → Reps K G (ds ++ es) (xs ++ ys)
  | [], es, xs, ys, h, h' => by unfold Reps at h; subst h; exact h'
  | d :: ds, es, xs, ys, h, h' => by
    unfold Reps at h
    obtain ⟨v, r, e1, q, t⟩ := h
    subst e1
    exact Reps.cons q (Reps.append t h')
theorem Reps.take : ∀ {ds : List Dm} {xs : List V} (n : Nat), Reps K G ds xs → Reps K G (ds.take n) (xs.take n)
  | ds, xs, 0, h => by simpa using Reps.nil
  | [], xs, n + 1, h => by unfold Reps at h; subst h; exact Reps.nil
  | d :: ds, xs, n + 1, h => by
    unfold Reps at h
    obtain ⟨v, r, e1, q, t⟩ := h
    subst e1
    exact Reps.cons q (Reps.take n t)
theorem Reps.drop : ∀ {ds : List Dm} {xs : List V} (n : Nat), Reps K G ds xs → Reps K G (ds.drop n) (xs.drop n)
  | ds, xs, 0, h => h
  | [], xs, n + 1, h => by unfold Reps at h; subst h; exact Reps.nil
  | d :: ds, xs, n + 1, h => by
    unfold Reps at h
    obtain ⟨v, r, e1, q, t⟩ := h
    subst e1
    exact Reps.drop n t
theorem Reps.set {e : Dm} {u : V} (he : Rep K G e u) : ∀ {ds : List Dm} {xs : List V} (n : Nat), Reps K G ds xs → Reps K G (ds.set n e) (xs.set n u)
  | [], xs, n, h => by unfold Reps at h; subst h; exact Reps.nil
  | d :: ds, xs, 0, h => by
    unfold Reps at h
    obtain ⟨v, r, e1, q, t⟩ := h
    subst e1
    exact Reps.cons he t
  | d :: ds, xs, n + 1, h => by
    unfold Reps at h
    obtain ⟨v, r, e1, q, t⟩ := h
    subst e1
    exact Reps.cons q (Reps.set he n t)
theorem Reps.rep {ds : List Dm} {xs : List V} (h : Reps K G ds xs) : ∀ k : Nat, Reps K G (List.replicate k ds).flatten (List.replicate k xs).flatten
  | 0 => Reps.nil
  | k + 1 => by
    rw [List.replicate_succ, List.replicate_succ, List.flatten_cons, List.flatten_cons]
    exact Reps.append h (Reps.rep h k)
end
def ExH (a C : Addr) : HO := .ext fun h => ∃ oe, h.get? a = some oe ∧ oe.cls = .ref C
def clsK (K : PySem.W.Frag) (c : Str) : Option Addr := match PySem.W.nsIn K mainGlobals c with
  | some (some (.ref C)) => some C
  | _ => none
def XcR (K : PySem.W.Frag) (G : Hp) (c : Str) (a : Addr) : Prop := ∃ C, clsK K c = some C ∧ G a = some (ExH a C)
theorem XcR.mono {K : PySem.W.Frag} {G G' : Hp} {c : Str} {a : Addr} (h : XcR K G c a) (s : Same G G') : XcR K G' c a := let ⟨C, e, z⟩ := h; ⟨C, e, s _ _ z⟩
abbrev TX (a : Addr) (kvs : List (List Key × Addr × V)) : HO := .ext fun h => kvs.length ≤ sizeLine ∧ (a == sysModules) = false ∧ ∃ xs : List (List Key × Addr × Value),
  Paired (fun (p : List Key × Addr × V) (q : List Key × Addr × Value) => p.1 = q.1 ∧ p.2.1 = q.2.1 ∧ RelV p.2.2 q.2.2) kvs xs ∧ ∃ o es ep, h.get? a = some o ∧ o.ExactDict ∧ o.data = .dict es ep ∧ (∀ (P : Program) (w : World), es.toList = xs.map (entryOfKey (tupleKind (mixKind P w)))) ∧ (xs.map (·.1)).Nodup
structure KTs (K : PySem.W.Frag) (G : Hp) (kvs : List (List Key × Addr × V)) (ks : List (List Int)) (ds : List Dm) : Prop where
  keys : kvs.map (·.1) = ks.map (List.map Sum.inl)
  tups : ∀ e ∈ kvs, SqT K G e.2.1 (e.1.map kV)
  vals : Reps K G ds (kvs.map (·.2.2))
theorem KTs.mono {K : PySem.W.Frag} {G G' : Hp} {kvs : List (List Key × Addr × V)} {ks : List (List Int)} {ds : List Dm} (r : KTs K G kvs ks ds) (s : Same G G') : KTs K G' kvs ks ds := ⟨r.keys, fun e he => Same.seqT s (r.tups e he), r.vals.mono s⟩
inductive Sl where
  | un | sh (d : Dm) | ow (ds : List Dm) | so (C : Hp) (d : Dm) | pt (p : Addr) (k : Option Nat) (d : Dm) | xc (c : Str) | od (ks : List Int) (ds : List Dm) | oT (ks : List (List Int)) (ds : List Dm)
def Sl.own : Sl → Bool
  | .ow _ => true
  | .od _ _ => true
  | .oT _ _ => true
  | _ => false
inductive Rs where
  | sh (d : Dm) | ow (ds : List Dm) | al (i : Nat) (ds : List Dm) | ft (pre es : List Dm) | od (ks : List Int) (ds : List Dm)
def Rs.dat : Rs → Dm
  | .sh d => d
  | .ow ds => .lst ds
  | .al _ ds => .lst ds
  | .ft pre es => .tup (pre ++ [.lst es])
  | .od ks ds => .dct ks ds
def tlen : Dm → Option Nat → Nat
  | .lst ds, none => ds.length
  | .tup cs, some k => match cs[k]? with
    | some (.lst es) => es.length
    | _ => 0
  | _, _ => 0
def Tgt (K : PySem.W.Frag) (G : Hp) : Option Nat → V → Addr → Prop
  | none, v, p => v = .ref p
  | some k, v, p => ∃ a vs, v = .ref a ∧ SqT K G a vs ∧ vs[k]? = some (.ref p)
theorem Tgt.mono {K : PySem.W.Frag} {G G' : Hp} (s : Same G G') : ∀ {k : Option Nat} {v : V} {p : Addr}, Tgt K G k v p → Tgt K G' k v p
  | none, _, _, h => h
  | some _, _, _, ⟨a, vs, e, q, r⟩ => ⟨a, vs, e, Same.seqT s q, r⟩
def SlR (K : PySem.W.Frag) (B G H : Hp) : Sl → Option (Option V) → Prop
  | .un, _ => True
  | .sh d, o => ∃ v, o = some (some v) ∧ Rep K G d v
  | .ow ds, o => ∃ p xs, o = some (some (.ref p)) ∧ H p = some (.lst xs) ∧ G p = none ∧ B p = none ∧ Reps K G ds xs
  | .so C d, o => ∃ v, o = some (some v) ∧ Rep K C d v ∧ Same C G
  | .pt p k d, o => ∃ v xs, o = some (some v) ∧ Rep K G d v ∧ G p = some (.lst xs) ∧ Tgt K G k v p ∧ tlen d k = xs.length
  | .xc c, o => ∃ a, o = some (some (.ref a)) ∧ XcR K G c a
  | .od ks ds, o => ∃ p kvs, o = some (some (.ref p)) ∧ H p = some (DX p kvs) ∧ G p = none ∧ B p = none ∧ kvs.2.map (·.1) = ks.map Sum.inl ∧ Reps K G ds (kvs.2.map (·.2))
  | .oT ks ds, o => ∃ p kvs, o = some (some (.ref p)) ∧ H p = some (TX p kvs) ∧ G p = none ∧ B p = none ∧ KTs K G kvs ks ds
def NS (δ : List Sl) (σ : St) (p : Addr) : Prop := ∀ (i : Nat) (s : Sl), δ[i]? = some s → s.own = true → σ[i]? ≠ some (some (V.ref p))
structure Sim (K : PySem.W.Frag) (B G0 G : Hp) (δ : List Sl) (σ : St) (H : Hp) : Prop where
  len : δ.length = σ.length
  bh : Same B H
  g0 : Same G0 G
  gh : Same G H
  gb : ∀ b, B b ≠ none → G b = G0 b
  slot : ∀ (i : Nat) (s : Sl), δ[i]? = some s → SlR K B G H s (σ[i]?)
  disj : ∀ (i j : Nat) (ds es : List Dm) (p : Addr), i ≠ j → δ[i]? = some (Sl.ow ds) → δ[j]? = some (Sl.ow es) → σ[i]? = some (some (V.ref p)) → σ[j]? = some (some (V.ref p)) → False
structure Gr (G H G' H' : Hp) : Prop where
  gg : Same G G'
  hh : Same H H'
  nw : ∀ b, H b ≠ none → G' b = G b
theorem Gr.refl {G H : Hp} : Gr G H G H := ⟨Same.refl G, Same.refl H, fun _ _ => rfl⟩
theorem Gr.trans {G H G1 H1 G2 H2 : Hp} (a : Gr G H G1 H1) (b : Gr G1 H1 G2 H2) : Gr G H G2 H2 := ⟨a.gg.trans b.gg, a.hh.trans b.hh, fun c hc => by
  have h1 : H1 c ≠ none := by
    cases q : H c with
    | none => exact absurd q hc
    | some o => rw [a.hh c o q]; simp
  rw [b.nw c h1, a.nw c hc]⟩
def RsR (K : PySem.W.Frag) (H0 G H : Hp) (δ : List Sl) (σ : St) : Rs → V → Prop
  | .sh d, v => Rep K G d v
  | .ow ds, v => ∃ p xs, v = .ref p ∧ H p = some (.lst xs) ∧ G p = none ∧ H0 p = none ∧ Reps K G ds xs
  | .al i ds, v => δ[i]? = some (.ow ds) ∧ σ[i]? = some (some v)
  | .od ks ds, v => ∃ p kvs, v = .ref p ∧ H p = some (DX p kvs) ∧ G p = none ∧ H0 p = none ∧ kvs.2.map (·.1) = ks.map Sum.inl ∧ Reps K G ds (kvs.2.map (·.2))
  | .ft pre es, v => ∃ a p vs xs, v = .ref a ∧ H a = some (.tup (vs ++ [.ref p])) ∧ H p = some (.lst xs) ∧ G a = none ∧ G p = none ∧ H0 a = none ∧ H0 p = none ∧ Reps K G pre vs ∧ Reps K G es xs
abbrev EF := List Sl → Option Rs
def tD (K : PySem.W.Frag) (f : EF) : TE := fun σ H Q => ∃ B G0 G δ r, Sim K B G0 G δ σ H ∧ f δ = some r ∧
  ∀ v G' H', Sim K B G0 G' δ σ H' → Gr G H G' H' → RsR K H G' H' δ σ r v → Q v H'
def PD (X : Cx) (e : Expr) (f : EF) : Prop := PE X e (tD X.K f)
theorem PE.imp {X : Cx} {e : Expr} {t t' : TE} (h : PE X e t) (i : ∀ σ H Q, t' σ H Q → t σ H Q) : PE X e t' := fun pins s σ H Q I q => h pins s σ H Q I (i σ H Q q)
theorem PT.imp {X : Cx} {e : Expr} {t t' : TT} (h : PT X e t) (i : ∀ σ H Q, t' σ H Q → t σ H Q) : PT X e t' := fun pins s σ H Q I q => h pins s σ H Q I (i σ H Q q)
theorem PS.imp {X : Cx} {e : Stmt} {t t' : TS} (h : PS X e t) (i : ∀ D σ H, t' D σ H → t D σ H) : PS X e t' := fun pins s σ H Q I q => h pins s σ H Q I (i Q σ H q)
theorem PSs.imp {X : Cx} {e : List Stmt} {t t' : TS} (h : PSs X e t) (i : ∀ D σ H, t' D σ H → t D σ H) : PSs X e t' := fun pins s σ H Q I q => h pins s σ H Q I (i Q σ H q)
section
variable {K : PySem.W.Frag} {B B' G0 G G' H H' : Hp} {δ : List Sl} {σ : St}
theorem Same.upd_new {H : Hp} {p : Addr} {o : HO} (h : H p = none) : Same H (upd H p o) := fun b u e => by
  rw [upd_ne (ne_of_none e h)]; exact e
theorem Sim.grow (S : Sim K B G0 G δ σ H) (e : Same H H') : Sim K B G0 G δ σ H' where
  len := S.len
  bh := S.bh.trans e
  g0 := S.g0
  gh := S.gh.trans e
  gb := S.gb
  slot := fun i s h => by
    have q := S.slot i s h
    cases s with
    | un => trivial
    | sh d => exact q
    | ow ds => obtain ⟨p, xs, e1, e2, r⟩ := q; exact ⟨p, xs, e1, e _ _ e2, r⟩
    | so C d => exact q
    | pt p k d => exact q
    | xc C => exact q
    | od ks ds => obtain ⟨p, kvs, e1, e2, r⟩ := q; exact ⟨p, kvs, e1, e _ _ e2, r⟩
    | oT ks ds => obtain ⟨p, kvs, e1, e2, r⟩ := q; exact ⟨p, kvs, e1, e _ _ e2, r⟩
  disj := S.disj
theorem Sim.view (S : Sim K B G0 G δ σ H) {p : Addr} {o : HO} (hp : H p = some o) (hg : G p = none) (hb : B p = none) (ns : NS δ σ p) : Sim K B G0 (upd G p o) δ σ H where
  len := S.len
  bh := S.bh
  g0 := S.g0.trans (Same.upd_new hg)
  gh := fun b u e => by
    by_cases z : b = p
    · subst z; rw [upd_same] at e; rw [hp]; exact e
    · rw [upd_ne z] at e; exact S.gh b u e
  gb := fun b hbb => by
    rw [upd_ne (by rintro rfl; exact hbb hb)]; exact S.gb b hbb
  slot := fun i s h => by
    have q := S.slot i s h
    cases s with
    | un => trivial
    | sh d => obtain ⟨v, e, r⟩ := q; exact ⟨v, e, r.mono (Same.upd_new hg)⟩
    | ow ds =>
      obtain ⟨q, xs, e1, e2, e3, e4, r⟩ := q
      refine ⟨q, xs, e1, e2, ?_, e4, r.mono (Same.upd_new hg)⟩
      rw [upd_ne (by rintro rfl; exact ns i _ h rfl e1)]; exact e3
    | so C d => obtain ⟨v, e, r, z⟩ := q; exact ⟨v, e, r, z.trans (Same.upd_new hg)⟩
    | pt p' k d =>
      obtain ⟨v, xs, e, r, z, t, l⟩ := q
      exact ⟨v, xs, e, r.mono (Same.upd_new hg), Same.upd_new hg _ _ z, t.mono (Same.upd_new hg), l⟩
    | xc C => obtain ⟨a, e, z⟩ := q; exact ⟨a, e, z.mono (Same.upd_new hg)⟩
    | od ks ds =>
      obtain ⟨q, kvs, e1, e2, e3, e4, kk, r⟩ := q
      refine ⟨q, kvs, e1, e2, ?_, e4, kk, r.mono (Same.upd_new hg)⟩
      rw [upd_ne (by rintro rfl; exact ns i _ h rfl e1)]; exact e3
    | oT ks ds =>
      obtain ⟨q, kvs, e1, e2, e3, e4, r⟩ := q
      refine ⟨q, kvs, e1, e2, ?_, e4, r.mono (Same.upd_new hg)⟩
      rw [upd_ne (by rintro rfl; exact ns i _ h rfl e1)]; exact e3
  disj := S.disj
theorem Sim.ns_of_free (S : Sim K B G0 G δ σ H) {p : Addr} (hp : H p = none) : NS δ σ p := fun i s h ho e => by
  have key : ∀ {q : Addr} {o : HO}, σ[i]? = some (some (V.ref q)) → H q = some o → False := fun {q o} e1 e2 => by
    rw [e] at e1
    have e3 : p = q := by injection e1 with e1; injection e1 with e1; injection e1
    subst e3
    rw [hp] at e2; cases e2
  cases s with
  | ow ds => obtain ⟨q, xs, e1, e2, _⟩ := S.slot i _ h; exact key e1 e2
  | od ks ds => obtain ⟨q, xs, e1, e2, _⟩ := S.slot i _ h; exact key e1 e2
  | oT ks ds => obtain ⟨q, xs, e1, e2, _⟩ := S.slot i _ h; exact key e1 e2
  | un => cases ho
  | sh d => cases ho
  | so C d => cases ho
  | pt p k d => cases ho
  | xc c => cases ho
theorem Sim.g_free (S : Sim K B G0 G δ σ H) {p : Addr} (hp : H p = none) : G p = none := S.gh.free hp
theorem Sim.b_free (S : Sim K B G0 G δ σ H) {p : Addr} (hp : H p = none) : B p = none := S.bh.free hp
theorem Sim.newSh (S : Sim K B G0 G δ σ H) {p : Addr} {o : HO} (hp : H p = none) : Sim K B G0 (upd G p o) δ σ (upd H p o) :=
  (S.grow (Same.upd_new hp)).view upd_same (S.g_free hp) (S.b_free hp) (S.ns_of_free hp)
def LstAt (K : PySem.W.Frag) (G H : Hp) (ds : List Dm) (v : V) : Prop := ∃ a xs, v = .ref a ∧ SqL K H a xs ∧ Reps K G ds xs
theorem RsR.rep (S : Sim K B G0 G δ σ H) {r : Rs} {v : V} (h : RsR K B' G H δ σ r v) : Rep K H r.dat v := by
  cases r with
  | sh d => exact Rep.mono S.gh h
  | ow ds =>
    obtain ⟨p, xs, e, e1, _, _, r⟩ := h
    show Rep K H (.lst ds) v
    unfold Rep
    exact ⟨p, xs, e, SqL.of e1, r.mono S.gh⟩
  | al i ds =>
    obtain ⟨h1, h2⟩ := h
    obtain ⟨p, xs, e, e1, _, _, r⟩ := S.slot i _ h1
    rw [h2] at e
    show Rep K H (.lst ds) v
    unfold Rep
    refine ⟨p, xs, ?_, SqL.of e1, r.mono S.gh⟩
    injection e with e; injection e
  | ft pre es =>
    obtain ⟨a, p, vs, xs, e, e1, e2, _, _, _, _, r1, r2⟩ := h
    show Rep K H (.tup (pre ++ [.lst es])) v
    unfold Rep
    refine ⟨a, _, e, SqT.of e1, (r1.mono S.gh).append (Reps.cons ?_ Reps.nil)⟩
    unfold Rep
    exact ⟨p, xs, rfl, SqL.of e2, r2.mono S.gh⟩
  | od ks ds =>
    obtain ⟨p, kvs, e, e1, _, _, kk, r⟩ := h
    show Rep K H (.dct ks ds) v
    unfold Rep
    exact ⟨p, kvs, e, e1, kk, r.mono S.gh⟩
theorem RsR.lst (S : Sim K B G0 G δ σ H) {r : Rs} {v : V} {ds : List Dm} (h : RsR K B' G H δ σ r v) (e : r.dat = .lst ds) : LstAt K G H ds v := by
  cases r with
  | sh d =>
    obtain rfl : d = .lst ds := e
    have h' : Rep K G (.lst ds) v := h
    unfold Rep at h'
    obtain ⟨a, xs, e1, q, r⟩ := h'
    exact ⟨a, xs, e1, S.gh.seq q, r⟩
  | ow es =>
    obtain rfl : es = ds := by injection e
    obtain ⟨p, xs, e, e1, _, _, r⟩ := h
    exact ⟨p, xs, e, SqL.of e1, r⟩
  | al i es =>
    obtain rfl : es = ds := by injection e
    obtain ⟨h1, h2⟩ := h
    obtain ⟨p, xs, e, e1, _, _, r⟩ := S.slot i _ h1
    rw [h2] at e
    refine ⟨p, xs, ?_, SqL.of e1, r⟩
    injection e with e; injection e
  | ft pre es => cases e
  | od ks ds => cases e
theorem RsR.tup (S : Sim K B G0 G δ σ H) {r : Rs} {v : V} {ds : List Dm} (h : RsR K B' G H δ σ r v) (hs : (match r with | .ft _ _ => false | _ => true) = true) (e : r.dat = .tup ds) : ∃ a xs, v = .ref a ∧ SqT K H a xs ∧ Reps K G ds xs := by
  cases r with
  | sh d =>
    obtain rfl : d = .tup ds := e
    have h' : Rep K G (.tup ds) v := h
    unfold Rep at h'
    obtain ⟨a, xs, e1, q, r⟩ := h'
    exact ⟨a, xs, e1, Same.seqT S.gh q, r⟩
  | ow es => cases e
  | al i es => cases e
  | ft pre es => cases hs
  | od ks ds => cases e
def Rs.still : Rs → Bool
  | .ow _ => false
  | .ft _ _ => false
  | .od _ _ => false
  | _ => true
theorem RsR.mono {r : Rs} {v : V} {B'' : Hp} (h : RsR K B' G H δ σ r v) (hs : r.still = true) (e : Same G G') : RsR K B'' G' H' δ σ r v := by
  cases r with
  | sh d => exact Rep.mono e h
  | ow ds => cases hs
  | al i ds => exact h
  | ft pre es => cases hs
  | od ks ds => cases hs
end
def Rs.fz : Rs → Rs
  | .ow ds => .sh (.lst ds)
  | .ft pre es => .sh (.tup (pre ++ [.lst es]))
  | .od ks ds => .sh (.dct ks ds)
  | r => r
def fz (f : EF) : EF := fun δ => (f δ).map Rs.fz
theorem Rs.fz_still (r : Rs) : r.fz.still = true := by cases r <;> rfl
theorem Rs.fz_dat (r : Rs) : r.fz.dat = r.dat := by cases r <;> rfl
theorem tD_fz {K : PySem.W.Frag} {f : EF} {σ : St} {H : Hp} {Q : VK} (h : tD K (fz f) σ H Q) : tD K f σ H Q := by
  obtain ⟨B, G0, G, δ, r, S, e, k⟩ := h
  unfold fz at e
  cases e0 : f δ with
  | none => rw [e0] at e; cases e
  | some r0 =>
    rw [e0] at e
    have e' : r0.fz = r := Option.some.inj e
    subst e'
    refine ⟨B, G0, G, δ, r0, S, e0, fun v G' H' S' g q => ?_⟩
    cases r0 with
    | sh d => exact k v G' H' S' g q
    | al i ds => exact k v G' H' S' g q
    | ow ds =>
      obtain ⟨p, xs, rfl, e1, e2, e3, r⟩ := q
      refine k _ (upd G' p (.lst xs)) H' (S'.view e1 e2 (S.b_free e3) (S.ns_of_free e3)) ⟨g.gg.trans (Same.upd_new e2), g.hh, fun b hb => by rw [upd_ne (by rintro rfl; exact hb e3)]; exact g.nw b hb⟩ ?_
      show Rep K _ (.lst ds) _
      unfold Rep
      exact ⟨p, xs, rfl, SqL.of upd_same, r.mono (Same.upd_new e2)⟩
    | od ks ds =>
      obtain ⟨p, kvs, rfl, e1, e2, e3, kk, r⟩ := q
      refine k _ (upd G' p (DX p kvs)) H' (S'.view e1 e2 (S.b_free e3) (S.ns_of_free e3)) ⟨g.gg.trans (Same.upd_new e2), g.hh, fun b hb => by rw [upd_ne (by rintro rfl; exact hb e3)]; exact g.nw b hb⟩ ?_
      show Rep K _ (.dct ks ds) _
      unfold Rep
      exact ⟨p, kvs, rfl, upd_same, kk, r.mono (Same.upd_new e2)⟩
    | ft pre es =>
      obtain ⟨a, p, vs, xs, rfl, e1, e2, e3, e4, e5, e6, r1, r2⟩ := q
      have hne : a ≠ p := by rintro rfl; rw [e1] at e2; cases e2
      have S2 := S'.view e2 e4 (S.b_free e6) (S.ns_of_free e6)
      have ga : upd G' p (.lst xs) a = none := by rw [upd_ne hne]; exact e3
      have S3 := S2.view e1 ga (S.b_free e5) (S.ns_of_free e5)
      refine k _ _ H' S3 ⟨(g.gg.trans (Same.upd_new e4)).trans (Same.upd_new ga), g.hh, fun b hb => by rw [upd_ne (by rintro rfl; exact hb e5), upd_ne (by rintro rfl; exact hb e6)]; exact g.nw b hb⟩ ?_
      show Rep K _ (.tup (pre ++ [.lst es])) _
      unfold Rep
      refine ⟨a, _, rfl, SqT.of upd_same, (r1.mono ((Same.upd_new e4).trans (Same.upd_new ga))).append (Reps.cons ?_ Reps.nil)⟩
      unfold Rep
      exact ⟨p, xs, rfl, SqL.of (by rw [upd_ne (Ne.symm hne)]; exact upd_same), r2.mono ((Same.upd_new e4).trans (Same.upd_new ga))⟩
theorem PD.fz {X : Cx} {e : Expr} {f : EF} (h : PD X e f) : PD X e (fz f) := PE.imp h fun _ _ _ q => tD_fz q
structure KD (K : PySem.W.Frag) (B G0 G : Hp) (δ : List Sl) (σ : St) (H : Hp) (r : Rs) (Q : VK) : Prop where
  sim : Sim K B G0 G δ σ H
  out : ∀ v G' H', Sim K B G0 G' δ σ H' → Gr G H G' H' → RsR K H G' H' δ σ r v → Q v H'
section
variable {K : PySem.W.Frag} {B G0 G G' H H' : Hp} {δ : List Sl} {σ : St} {r : Rs} {Q : VK}
theorem RsR.pre {v : V} (h : RsR K H' G H δ σ r v) {H0 : Hp} (e : Same H0 H') : RsR K H0 G H δ σ r v := by
  cases r with
  | sh d => exact h
  | al i ds => exact h
  | ow ds => obtain ⟨p, xs, e1, e2, e3, e4, q⟩ := h; exact ⟨p, xs, e1, e2, e3, e.free e4, q⟩
  | od ks ds => obtain ⟨p, xs, e1, e2, e3, e4, q⟩ := h; exact ⟨p, xs, e1, e2, e3, e.free e4, q⟩
  | ft pre es => obtain ⟨a, p, vs, xs, e1, e2, e3, e4, e5, e6, e7, q⟩ := h; exact ⟨a, p, vs, xs, e1, e2, e3, e4, e5, e.free e6, e.free e7, q⟩
theorem KD.step (k : KD K B G0 G δ σ H r Q) (S : Sim K B G0 G' δ σ H') (g : Gr G H G' H') : KD K B G0 G' δ σ H' r Q := ⟨S, fun v G2 H2 S2 g2 q => k.out v G2 H2 S2 (g.trans g2) (q.pre g.hh)⟩
theorem KD.tD {f : EF} (k : KD K B G0 G δ σ H r Q) (e : f δ = some r) : tD K f σ H Q := ⟨B, G0, G, δ, r, k.sim, e, k.out⟩
theorem KD.now {v : V} (k : KD K B G0 G δ σ H r Q) (q : RsR K H G H δ σ r v) : Q v H := k.out v G H k.sim Gr.refl q
theorem KD.newL {ds : List Dm} {xs : List V} {p : Addr} (k : KD K B G0 G δ σ H (.ow ds) Q) (hr : Reps K G ds xs) (hp : H p = none) : Q (.ref p) (upd H p (.lst xs)) :=
  k.out _ G _ (k.sim.grow (Same.upd_new hp)) ⟨Same.refl G, Same.upd_new hp, fun _ _ => rfl⟩ ⟨p, xs, rfl, upd_same, k.sim.g_free hp, hp, hr⟩
theorem KD.newT {ds : List Dm} {xs : List V} {p : Addr} (k : KD K B G0 G δ σ H (.sh (.tup ds)) Q) (hr : Reps K G ds xs) (hp : H p = none) : Q (.ref p) (upd H p (.tup xs)) := by
  refine k.out _ _ _ (k.sim.newSh hp) ⟨Same.upd_new (k.sim.g_free hp), Same.upd_new hp, fun b hb => upd_ne (by rintro rfl; exact hb hp)⟩ ?_
  show Rep K _ (.tup ds) _
  unfold Rep
  exact ⟨p, xs, rfl, SqT.of upd_same, hr.mono (Same.upd_new (k.sim.g_free hp))⟩
end
theorem Sim.ext {K : PySem.W.Frag} {B G0 G G' H H' : Hp} {δ : List Sl} {σ : St} (S : Sim K B G0 G δ σ H) (g : Gr G H G' H') (gh : Same G' H') : Sim K B G0 G' δ σ H' := by
  refine ⟨S.len, S.bh.trans g.hh, S.g0.trans g.gg, gh, fun b hb => ?_, fun i s hs => ?_, S.disj⟩
  · have hb' : H b ≠ none := by
      cases q : B b with
      | none => exact absurd q hb
      | some o => rw [S.bh b o q]; simp
    rw [g.nw b hb']; exact S.gb b hb
  · have q := S.slot i s hs
    cases s with
    | un => trivial
    | sh d => obtain ⟨v, e, r⟩ := q; exact ⟨v, e, r.mono g.gg⟩
    | ow ds =>
      obtain ⟨p, xs, e1, e2, e3, e4, r⟩ := q
      exact ⟨p, xs, e1, g.hh _ _ e2, by rw [g.nw p (by rw [e2]; simp)]; exact e3, e4, r.mono g.gg⟩
    | so C d => obtain ⟨v, e, r, z⟩ := q; exact ⟨v, e, r, z.trans g.gg⟩
    | pt p' k d => obtain ⟨v, xs, e, r, z, t, l⟩ := q; exact ⟨v, xs, e, r.mono g.gg, g.gg _ _ z, t.mono g.gg, l⟩
    | xc C => obtain ⟨a, e, z⟩ := q; exact ⟨a, e, z.mono g.gg⟩
    | od ks ds =>
      obtain ⟨p, kvs, e1, e2, e3, e4, kk, r⟩ := q
      exact ⟨p, kvs, e1, g.hh _ _ e2, by rw [g.nw p (by rw [e2]; simp)]; exact e3, e4, kk, r.mono g.gg⟩
    | oT ks ds =>
      obtain ⟨p, kvs, e1, e2, e3, e4, r⟩ := q
      exact ⟨p, kvs, e1, g.hh _ _ e2, by rw [g.nw p (by rw [e2]; simp)]; exact e3, e4, r.mono g.gg⟩
section
variable {K : PySem.W.Frag} {B G0 G G' H H' : Hp} {δ : List Sl} {σ : St} {r : Rs} {Q : VK}
end
end BF
set_option Elab.async false
set_option linter.all false
set_option maxRecDepth 100000
set_option maxHeartbeats 4000000
namespace BF
open PySem PySem.Spec PyProof.Rows L2
section
variable {X : Cx}
def rCatQ (K : PySem.W.Frag) : R2 := fun x y H Q => ∃ l b xs zs, x = .ref l ∧ y = .ref b ∧ SqL K H l xs ∧ SqL K H b zs ∧ xs.length + zs.length ≤ sizeLine ∧ ∀ p, H p = none → Q (.ref p) (upd H p (.lst (xs ++ zs)))
theorem op_catQ : OpR X (binaryOp .Add) (rCatQ X.K) := by
  intro pins s σ H x y v u Q I rx ry h
  obtain ⟨l, b, xs, zs, rfl, rfl, hH, hB, hz, q⟩ := h
  cases rx
  cases ry
  obtain ⟨its, r, pl, _⟩ := I.list hH
  obtain ⟨its2, r2, pl2, _⟩ := I.list hB
  obtain ⟨⟨cls, dd, data, sl⟩, ho, hc, n, hd⟩ := id pl.isList
  obtain ⟨⟨cls2, dd2, data2, sl2⟩, ho2, hc2, n2, hd2⟩ := id pl2.isList
  simp only at hc hd hc2 hd2
  subst hc hd hc2 hd2
  have l1 := r.length
  have l2 := r2.length
  refine concat_meets ⟨_, ho, rfl⟩ ⟨_, ho2, rfl⟩ noFill_list_add seq_list_add PySem.F.slot_list_add PySem.F.entry_list_add (PySem.F.args_list_add_2 _ _) (list_addW l b its.toArray its2.toArray n n2 dd dd2 sl sl2 (by rw [List.size_toArray, List.size_toArray]; omega)) ⟨ho, ho2, ?_⟩
  have ea : its.toArray ++ its2.toArray = (its ++ its2).toArray := by simp
  rw [ea]
  exact ⟨.ref _, _, I.lnew (t' := s.toks) (r.append r2) (by rw [List.length_append]; omega), rfl, q _ I.fresh⟩
theorem op_mulB : OpR X (binaryOp .Mult) (rI IntMulOk fun i j => .int (i * j)) := opI fun _ _ _ _ _ _ _ hc q => mul_int q hc
def CDivB (_i j : Int) : Prop := 0 < j ∧ j.natAbs.log2 < 9000
theorem op_fdivB : OpR X (binaryOp .FloorDiv) (rI CDivB fun i j => .int (i / j)) := opI fun i j _ _ _ _ _ hc q => by
  have h0 : j ≠ 0 := by have := hc.1; omega
  refine floordiv_int h0 ?_ (.inl (PyProof.noPylong_of_log2 hc.2))
  rw [Int.fdiv_eq_ediv_of_nonneg i (by have := hc.1; omega)]
  exact q
mutual
def toPy : Dm → PyData
  | .non => .none
  | .bl b => .bool b
  | .int i => .int i
  | .str x => .str x
  | .lst ds => .list (toPys ds)
  | .tup ds => .tuple (toPys ds)
  | .dct _ _ => .dict []
def toPys : List Dm → List PyData
  | [] => []
  | d :: ds => toPy d :: toPys ds
end
mutual
theorem reads_of {pins : List (Addr × Obj)} {σ : L2.St} {H : Hp} {s : Shared} (I : Inv X pins σ H s) : ∀ {d : Dm} {v : V} {u : Value}, (toPy d).canLay0 = true → Rep X.K H d v → RelV v u → ∃ as, Reads s.heap u (toPy d) as
  | .non, v, u, _, h, r => by unfold Rep at h; subst h; cases r; exact ⟨_, .none⟩
  | .bl b, v, u, _, h, r => by unfold Rep at h; subst h; cases r; exact ⟨_, .bool b⟩
  | .int i, v, u, _, h, r => by unfold Rep at h; subst h; obtain ⟨t, rfl⟩ := r; exact ⟨_, .int i t⟩
  | .str x, v, u, _, h, r => by unfold Rep at h; subst h; obtain ⟨t, rfl⟩ := r; exact ⟨_, .str x t⟩
  | .lst ds, v, u, cl, h, r => by
    unfold Rep at h
    have cl' : PyData.canLayAll0 (toPys ds) = true := by simpa [toPy, PyData.canLay0] using cl
    obtain ⟨a, xs, rfl, q, rr⟩ := h
    cases r
    obtain ⟨its, rv, pl, _⟩ := I.list q
    obtain ⟨o, ho, hc, n, hd⟩ := pl.isList
    obtain ⟨as, ra⟩ := readsAll_of I cl' rr rv
    exact ⟨_, .list ho hc hd (by simpa using ra)⟩
  | .tup ds, v, u, cl, h, r => by
    unfold Rep at h
    have cl' : PyData.canLayAll0 (toPys ds) = true := by simpa [toPy, PyData.canLay0] using cl
    obtain ⟨a, xs, rfl, q, rr⟩ := h
    cases r
    obtain ⟨its, rv, pl, _⟩ := I.tuple q
    obtain ⟨o, ho, hc, n, hd⟩ := pl
    obtain ⟨as, ra⟩ := readsAll_of I cl' rr rv
    exact ⟨_, .tuple ho hc hd (by simpa using ra)⟩
  | .dct ks ds, v, u, cl, h, r => by simp [toPy, PyData.canLay0] at cl
theorem readsAll_of {pins : List (Addr × Obj)} {σ : L2.St} {H : Hp} {s : Shared} (I : Inv X pins σ H s) : ∀ {ds : List Dm} {xs : List V} {us : List Value}, PyData.canLayAll0 (toPys ds) = true → Reps X.K H ds xs → Vals xs us → ∃ as, ReadsAll s.heap us (toPys ds) as
  | [], xs, us, _, h, r => by unfold Reps at h; subst h; cases r; exact ⟨_, .nil⟩
  | d :: ds, xs, us, cl, h, r => by
    unfold Reps at h
    obtain ⟨v, t, rfl, h1, h2⟩ := h
    have cl' : (toPy d).canLay0 = true ∧ PyData.canLayAll0 (toPys ds) = true := by simpa [toPys, PyData.canLayAll0] using cl
    cases r with
    | cons r1 r2 =>
      obtain ⟨as, ra⟩ := reads_of I cl'.1 h1 r1
      obtain ⟨bs, rb⟩ := readsAll_of I cl'.2 h2 r2
      exact ⟨_, .cons ra rb⟩
end
def okEq (d : Dm) : Bool := PySem.SeqAt.shaped (toPy d)
theorem okEq_lay {d : Dm} (h : okEq d = true) : (toPy d).canLay0 = true := by
  unfold okEq PySem.SeqAt.shaped at h
  rw [Bool.and_eq_true] at h
  exact h.1
def eqD (a b : Dm) : Bool := PyData.eqv (toPy a) (toPy b)
def rEqD (K : PySem.W.Frag) (neg : Bool) : R2 := fun x y H Q => ∃ a b, Rep K H a x ∧ Rep K H b y ∧ okEq a = true ∧ okEq b = true ∧ Q (.bl (if neg then !eqD a b else eqD a b)) H
theorem op_eqD (hu : X.A.units + 64 < cLine) : OpR X (compareOp .Eq) (rEqD X.K false) := by
  intro pins s σ H x y v u Q I rx ry h
  obtain ⟨a, b, ra, rb, ha, hb, q⟩ := h
  obtain ⟨as, Ra⟩ := reads_of I (okEq_lay ha) ra rx
  obtain ⟨bs, Rb⟩ := reads_of I (okEq_lay hb) rb ry
  exact eq_dataH Ra Rb ha hb hu ⟨.bl _, H, I, rfl, q⟩
theorem op_neD (hu : X.A.units + 64 < cLine) : OpR X (compareOp .NotEq) (rEqD X.K true) := by
  intro pins s σ H x y v u Q I rx ry h
  obtain ⟨a, b, ra, rb, ha, hb, q⟩ := h
  obtain ⟨as, Ra⟩ := reads_of I (okEq_lay ha) ra rx
  obtain ⟨bs, Rb⟩ := reads_of I (okEq_lay hb) rb ry
  exact ne_dataH Ra Rb ha hb hu ⟨.bl _, H, I, rfl, q⟩
def Dm.ty : Dm → String
  | .non => "NoneType" | .bl _ => "bool" | .int _ => "int" | .str _ => "str" | .lst _ => "list" | .tup _ => "tuple" | .dct _ _ => "dict"
def isTy (d : Dm) (c : String) : Bool := d.ty == c || (d.ty == "bool" && c == "int")
def rIsi (K : PySem.W.Frag) : List V → Hp → VK → Prop := fun xs H Q => ∃ x d c, xs = [x, .ty c] ∧ Rep K H d x ∧ (c = "int" ∨ c = "bool" ∨ c = "str" ∨ c = "list" ∨ c = "tuple") ∧ Q (.bl (isTy d c)) H
theorem kit_of {K : PySem.W.Frag} (d : Dm) {c : String} (hc : c = "int" ∨ c = "bool" ∨ c = "str" ∨ c = "list" ∨ c = "tuple") : PySem.W.kitOne K (.type d.ty) (.type c) = some (isTy d c) := by
  rcases hc with rfl | rfl | rfl | rfl | rfl <;> cases d <;> kernel_rfl
theorem call_isi : CallR X (.builtin "isinstance") (rIsi X.K) := by
  intro pins s σ H xs us Q I r h
  obtain ⟨x, d, c, rfl, rx, hc, q⟩ := h
  obtain ⟨u, w', rfl, r1, r2⟩ := vals2 r
  cases (show w' = Value.type c from r2)
  have e : PySem.W.kitOne X.K (.type d.ty) (.type c) = some (isTy d c) := kit_of d hc
  have fin : ∀ tk, EP X pins σ Q (.bool (isTy d c)) { s with toks := tk } := fun tk => ⟨.bl _, H, I.tok _, rfl, q⟩
  cases d with
  | non => unfold Rep at rx; subst rx; exact isinst_ok I r1 .non e fin
  | bl b => unfold Rep at rx; subst rx; exact isinst_ok I r1 (.bl b) e fin
  | int i => unfold Rep at rx; subst rx; exact isinst_ok I r1 (.int i) e fin
  | str z => unfold Rep at rx; subst rx; exact isinst_ok I r1 (.str z) e fin
  | lst ds =>
    unfold Rep at rx
    obtain ⟨a, xs, rfl, q', _⟩ := rx
    cases (show u = Value.ref a from r1)
    obtain ⟨its, _, pl, _⟩ := I.list q'
    obtain ⟨o, h1, h2, _⟩ := pl.isList
    exact PySem.W.kia_one PySem.W.kitx_list I.kIn ⟨o, h1, h2⟩ e (fun z => nomatch z) fin
  | tup ds =>
    unfold Rep at rx
    obtain ⟨a, xs, rfl, q', _⟩ := rx
    cases (show u = Value.ref a from r1)
    obtain ⟨its, _, p, _⟩ := I.tuple q'
    obtain ⟨o, h1, h2, _⟩ := p
    exact PySem.W.kia_one PySem.W.kitx_tuple I.kIn ⟨o, h1, h2⟩ e (fun z => nomatch z) fin
  | dct ks ds =>
    unfold Rep at rx
    obtain ⟨a, kvs, rfl, q', _⟩ := rx
    cases (show u = Value.ref a from r1)
    obtain ⟨⟨_, _, vs, _, dd⟩, _⟩ := rd_of I.hok (.inl q')
    obtain ⟨o, es, h1, h2, _⟩ := dd X.prog X.w
    exact PySem.W.kia_one PySem.W.kitx_dict I.kIn ⟨o, h1, h2.1⟩ e (fun z => nomatch z) fin
end
end BF
set_option Elab.async false
set_option linter.all false
set_option maxRecDepth 100000
set_option maxHeartbeats 4000000
namespace BF
open PySem PySem.Spec L2
theorem turnNew {X : Cx} {pins : List (Addr × Obj)} {σ : L2.St} {H : Hp} {s : Shared} {h' : Heap} {t' : Nat} {ch : List Addr} {T : Addr} {o : HO} (I : Inv X pins σ H s) (hf : ∀ b ∈ ch, FpOk X pins H b)
    (k : ∀ b ob, b ∉ ch → s.heap.get? b = some ob → h'.get? b = some ob) (hT : s.heap.objs.size ≤ T) (new : ObjOk X.prog X.w (upd H T o) h' T o) : Inv X pins σ (upd H T o) { s with heap := h', toks := t' } := by
  have hn : H T = none := I.hok.fresh hT
  have nT : ∀ b ob, s.heap.get? b = some ob → b ≠ T := fun b ob e => Nat.ne_of_lt (Nat.lt_of_lt_of_le (Heap.lt_size e) hT)
  have nch : ∀ b u, H b = some u → b ∉ ch := fun b u e z => by rw [(hf b z).1] at e; cases e
  refine I.step (g' := s.gens) (d' := s.drawn) (ch := ch) (fun b hb => ?_) (fun b ob _ _ hc e _ => k b ob hc e) (fun b ob _ _ hc e _ => ⟨ob.slots, k b ob hc e⟩) (fun b ob _ e n => by rw [upd_ne (nT b ob e)]; exact n)
    (fun b ob hc e => ⟨ob, k b ob hc e⟩) (fun b xs e => by rw [upd_ne (ne_of_none e hn)]; exact e) (fun b ob u e => by rw [upd_ne (ne_of_none e hn)]; exact e) (fun b ps e => ⟨#[], by rw [upd_ne (ne_of_none e hn), e]; simp⟩) (fun m hm => ?_) (fun b u e => ?_) I.bare
  · obtain ⟨_, f1, _, f3, f4, f5⟩ := hf b hb
    exact ⟨f3, f1, f4, f5⟩
  · obtain ⟨ob, es, ep, ho, r⟩ := hm
    exact ⟨ob, es, ep, k _ ob (fun z => (hf _ z).2.1 rfl) ho, r⟩
  · by_cases hb : b = T
    · subst hb; rw [upd_same] at e; cases e; exact new
    · rw [upd_ne hb] at e
      refine (I.hok b u e).stay (fun c v hc q => k c v ?_ q) (fun c q => by rw [upd_ne (ne_of_none q hn)]; exact q) fun c xs q => by rw [upd_ne (ne_of_none q hn)]; exact q
      rcases hc with z | z
      · rw [z]; exact nch b u e
      · exact nch c _ z
def Ite (K : PySem.W.Frag) (a : Addr) : It :=
  ⟨fun i H => ∃ xs x, SqL K H a xs ∧ xs[i]? = some x, fun i H x H' => ∃ t, H t = none ∧ x = .ref t ∧ ∃ y, H' = upd H t (.tup [.int i, y]) ∧ ∀ xs, SqL K H a xs → xs[i]? = some y, fun i H => ∃ xs, SqL K H a xs ∧ xs.length ≤ i⟩
theorem turn_enum {P : Program} {w : World} {K : PySem.W.Frag} {elts : List Expr} {x1 : Nat} {tp : Pos} (a e it : Addr) (hne : e ≠ it) :
    Turn P w K (.Tuple elts x1 tp) (Ite K a) [e, it] e (fun i h => (∃ old, IsEnum h e it i old) ∧ h.IsListIter it a i) where
  mem := by simp
  obj := fun i h st b hb => by
    obtain ⟨⟨old, he⟩, hit⟩ := st
    rcases List.mem_cons.mp hb with rfl | hb
    · exact ⟨_, he, fun v z => by
        have z' : Data.fields _ = Data.cell v := z
        cases z'⟩
    · have eb : b = it := by simpa using hb
      subst eb
      obtain ⟨o, q, c, d⟩ := hit
      exact ⟨o, q, fun v z => by rw [d] at z; cases z⟩
  keep := fun i h h' st k => ⟨let ⟨old, he⟩ := st.1; ⟨old, k e (by simp) _ he⟩, st.2.at fun o q => k it (by simp) o q⟩
  item := by
    intro X hP hw hK hc i pins s σ H E I hf st hg
    subst hP hw hK
    obtain ⟨⟨old, he⟩, hit⟩ := st
    obtain ⟨xs, x, hq, hx⟩ := hg
    obtain ⟨its, rv, p, hz⟩ := I.list hq
    obtain ⟨u, hu, ru⟩ := rv.get hx
    refine wpAny_pyNext_enum_item he hit p.isList (x := u) (by simpa using hu) hne fun h' ho hit' hT hsz hk => ?_
    refine ⟨_, rfl, wpAny_letOwnedTupleGo_enum ho fun h'' he'' hs'' => ?_⟩
    have helt : e < s.heap.objs.size := Heap.lt_size he
    have hT2 : h''.get? s.heap.objs.size = some { cls := .type "tuple", data := .seq #[.int i s.toks, u] } := (hs''.2 _ (Nat.ne_of_gt helt)).trans hT
    refine ⟨.ref s.heap.objs.size, upd H s.heap.objs.size (.tup [.int i, x]), turnNew (s := s) (t' := s.toks + 1) (h' := h'') (ch := [e, it]) I hf (fun b ob hb q => ?_) (Nat.le_refl _) ?_, rfl, ⟨_, I.hok.fresh (Nat.le_refl _), rfl, x, rfl, fun ys hy => by rw [I.list_inj hy hq]; exact hx⟩, ?_, fun b hb => ?_⟩
    · have h1 : b ≠ e := fun z => hb (by simp [z])
      have h2 : b ≠ it := fun z => hb (by simp [z])
      exact (hs''.2 b h1).trans (hk b ob h1 h2 q)
    · exact ⟨by show 2 ≤ sizeLine; rw [sizeLine_eq]; decide, [.int i s.toks, u], .cons ⟨_, rfl⟩ (.cons ru .nil), ⟨_, hT2, rfl, _, rfl⟩⟩
    · refine ⟨⟨u, ?_⟩, hit'.at fun o q => (hs''.2 it hne.symm).trans q⟩
      have ei : ((i + 1 : Nat) : Int) = (i : Int) + 1 := by push_cast; rfl
      rw [ei]; exact he''
    · have lt : b < s.heap.objs.size := by
        rcases List.mem_cons.mp hb with rfl | hb
        · exact helt
        · have eb : b = it := by simpa using hb
          subst eb
          obtain ⟨o, q, _⟩ := hit
          exact Heap.lt_size q
      rw [upd_ne (Nat.ne_of_lt lt)]
      exact (hf b hb).1
  done := by
    intro X hP hw hK hc i pins s σ H E I hf st hg
    subst hP hw hK
    obtain ⟨⟨old, he⟩, hit⟩ := st
    obtain ⟨xs, hq, hx⟩ := hg
    obtain ⟨its, rv, p, hz⟩ := I.list hq
    have hl := rv.length
    obtain ⟨f0, f1, f2, f3, f4, f5⟩ := hf it (by simp)
    exact wpAny_pyNext_enum_end (I.ok.hd hc) he hit p.isList (by simp; omega) fun h' eb => ⟨rfl, I.turned (t' := s.toks) (fun b o hb e => eb b o hb e) f0 f1 f3 f4 f5⟩
  self := fun _ _ _ _ _ st h => let ⟨_, he⟩ := st.1; wpAny_pyIter_enum he h
def iEnum (K : PySem.W.Frag) (ta : TA) : TI := fun σ H R => ta σ H fun vs H1 => ∃ a, vs = [.ref a] ∧ (∃ xs, SqL K H1 a xs) ∧ R (Ite K a) H1
theorem pi_enum {X : Cx} {a : Expr} {ta : TA} {p pos : Pos} {elts : List Expr} {x1 : Nat} {tp : Pos} (hg : Gl X "enumerate") (hm : X.mg "enumerate" = none) (hb : bootBuiltins "enumerate" = some (.type "enumerate")) (ha : PA X [a] ta) (hs : starEach [a] X.env = [(false, eval a X.env)] := by rfl) :
    PI X (.Tuple elts x1 tp) (.Call (.Name "enumerate" p) [a] [] pos) (iEnum X.K ta) := by
  intro pins s σ H R I h
  refine PyProof.Rows.Call_ (ld_blt I hg hm hb (PyProof.Rows.callWith_type1 (thn (ha pos pins s σ H _ I h) fun us s1 ⟨vs, H1, I1, r1, q1⟩ => ?_) hs rfl))
  obtain ⟨l, e, ⟨xs, hq⟩, q⟩ := q1
  subst e
  obtain ⟨u, rfl, ru⟩ := vals1 r1
  cases ru
  obtain ⟨its, rv, pl, hz⟩ := I1.list hq
  refine call_enumerate_list pl.isList fun h' he hit hsz hk => ?_
  refine wpAny_pyIter_enum he ?_
  have I2 : Inv X pins σ H1 { s1 with heap := h' } := I1.kept (t' := s1.toks) hk
  refine ⟨s1.heap.objs.size + 1, [s1.heap.objs.size + 1, s1.heap.objs.size], _, _, H1, rfl, I2, turn_enum l _ s1.heap.objs.size (Nat.succ_ne_self _), ⟨⟨_, he⟩, hit⟩, fun b hb => ?_, q⟩
  rcases List.mem_cons.mp hb with rfl | hb
  · exact I1.fpOk (Nat.le_succ _) (I1.hok.fresh (Nat.le_succ _))
  · have eb : b = s1.heap.objs.size := by simpa using hb
    subst eb
    exact I1.fpOk (Nat.le_refl _) (I1.hok.fresh (Nat.le_refl _))
def clOf (cells : List (Str × Addr)) : List (Str × NameKind) → List (Str × Addr) → List (Str × Addr)
  | [], acc => acc
  | (n, k) :: r, acc => if k = .free then clOf cells r ((n, (cells.lookup n).getD 0) :: acc) else clOf cells r acc
theorem closure_aux {env : Env} : ∀ (names : List (Str × NameKind)) (acc : List (Str × Addr)), (∀ x ∈ names, x.2 = .free → ∃ c, env.cells.lookup x.1 = some c) →
    (forIn names acc fun (x : Str × NameKind) (cs : List (Str × Addr)) => if (x.2 == NameKind.free) = true then (do let a ← cellOf env x.1; pure (ForInStep.yield ((x.1, a) :: cs))) else pure (ForInStep.yield cs)) = (pure (clOf env.cells names acc) : Sem (List (Str × Addr)))
  | [], acc, _ => rfl
  | (n, k) :: r, acc, h => by
    rw [List.forIn_cons]
    have ih := fun acc => closure_aux (env := env) r acc fun x hx => h x (List.mem_cons_of_mem _ hx)
    by_cases hk : k = .free
    · subst hk
      obtain ⟨c, hc⟩ := h (n, .free) List.mem_cons_self rfl
      have hc' : env.cells.lookup n = some c := hc
      show ((if true = true then (do let a ← cellOf env n; pure (ForInStep.yield ((n, a) :: acc))) else pure (ForInStep.yield acc)) >>= _) = _
      rw [if_pos rfl]
      unfold cellOf
      rw [hc']
      show (pure (ForInStep.yield ((n, c) :: acc)) >>= _) = _
      rw [pure_bind]
      show _ = (pure (clOf env.cells ((n, .free) :: r) acc) : Sem _)
      rw [clOf, if_pos rfl, hc', ← ih]
      rfl
    · have hb : (k == NameKind.free) = false := by simpa using hk
      show ((if (k == NameKind.free) = true then _ else pure (ForInStep.yield acc)) >>= _) = _
      rw [if_neg (by rw [hb]; exact Bool.false_ne_true), pure_bind]
      show _ = (pure (clOf env.cells ((n, k) :: r) acc) : Sem _)
      rw [clOf, if_neg hk, ← ih]
theorem closure_of {scope : Scope} {env : Env} (h : ∀ x ∈ scope.names, x.2 = .free → ∃ c, env.cells.lookup x.1 = some c) : closureFor scope env = pure (clOf env.cells scope.names []) := by
  have := closure_aux (env := env) scope.names [] h
  unfold closureFor
  rw [← this]
  first
    | rfl
    | simp
theorem clOf_sound {cells : List (Str × Addr)} : ∀ {names : List (Str × NameKind)} {acc : List (Str × Addr)}, (∀ x ∈ names, x.2 = .free → ∃ c, cells.lookup x.1 = some c) → (∀ n c, acc.lookup n = some c → cells.lookup n = some c) → ∀ n c, (clOf cells names acc).lookup n = some c → cells.lookup n = some c
  | [], acc, _, ha, n, c, e => ha n c e
  | (m, k) :: r, acc, h, ha, n, c, e => by
    rw [clOf] at e
    have hr : ∀ x ∈ r, x.2 = .free → ∃ c, cells.lookup x.1 = some c := fun x hx => h x (List.mem_cons_of_mem _ hx)
    by_cases hk : k = .free
    · rw [if_pos hk] at e
      subst hk
      obtain ⟨d, hd⟩ := h (m, .free) List.mem_cons_self rfl
      refine clOf_sound hr (fun n' c' e' => ?_) n c e
      rw [List.lookup_cons] at e'
      by_cases hm : (n' == m) = true
      · rw [hm] at e'
        have hd' : cells.lookup m = some d := hd
        rw [hd'] at e'
        have : n' = m := by simpa using hm
        rw [this, hd']
        exact e'
      · have hm' : (n' == m) = false := by simpa using hm
        rw [hm'] at e'
        exact ha n' c' e'
    · rw [if_neg hk] at e
      exact clOf_sound hr ha n c e
theorem clOf_has {cells : List (Str × Addr)} : ∀ {names : List (Str × NameKind)} {acc : List (Str × Addr)} (n : Str), ((n, NameKind.free) ∈ names ∨ ∃ c, acc.lookup n = some c) → ∃ c, (clOf cells names acc).lookup n = some c
  | [], acc, n, h => by
    rcases h with h | h
    · cases h
    · exact h
  | (m, k) :: r, acc, n, h => by
    rw [clOf]
    by_cases hk : k = .free
    · rw [if_pos hk]
      refine clOf_has n ?_
      rcases h with h | ⟨c, h⟩
      · rcases List.mem_cons.mp h with e | h
        · refine .inr ⟨(cells.lookup m).getD 0, ?_⟩
          have e1 : n = m := by injection e
          rw [List.lookup_cons, e1]
          simp
        · exact .inl h
      · refine .inr ?_
        rw [List.lookup_cons]
        cases hm : (n == m) with
        | true => exact ⟨_, rfl⟩
        | false => exact ⟨c, h⟩
    · rw [if_neg hk]
      refine clOf_has n ?_
      rcases h with h | h
      · rcases List.mem_cons.mp h with e | h
        · injection e with _ e2
          exact absurd e2.symm hk
        · exact .inl h
      · exact .inr h
theorem lookup_relabel {env : Env} {x : Str} : ∀ {names : List (Str × NameKind)} {k : NameKind},
    (names.map fun (n, k) => if (k == NameKind.free && env.scope.kind == .function && env.kindOf n == some .cell) then (n, NameKind.cell) else (n, k)).lookup x = some k →
      ∃ k0, names.lookup x = some k0 ∧ (k = k0 ∨ (k0 = .free ∧ k = .cell))
  | [], k, h => by simp at h
  | (n, k') :: r, k, h => by
    rw [List.map_cons] at h
    by_cases hc : (k' == NameKind.free && env.scope.kind == .function && env.kindOf n == some .cell) = true
    · have e : (match ((n, k') : Str × NameKind) with | (n, k) => if (k == NameKind.free && env.scope.kind == .function && env.kindOf n == some .cell) = true then (n, NameKind.cell) else (n, k)) = (n, NameKind.cell) := if_pos hc
      rw [e, List.lookup_cons] at h
      rw [List.lookup_cons]
      cases hx : (x == n) with
      | true =>
        rw [hx] at h
        have hk : k' = .free := by
          rw [Bool.and_eq_true, Bool.and_eq_true] at hc
          simpa using hc.1.1
        exact ⟨k', rfl, .inr ⟨hk, (Option.some.inj h).symm⟩⟩
      | false => rw [hx] at h; exact lookup_relabel h
    · have e : (match ((n, k') : Str × NameKind) with | (n, k) => if (k == NameKind.free && env.scope.kind == .function && env.kindOf n == some .cell) = true then (n, NameKind.cell) else (n, k)) = (n, k') := if_neg hc
      rw [e, List.lookup_cons] at h
      rw [List.lookup_cons]
      cases hx : (x == n) with
      | true => rw [hx] at h; exact ⟨k', rfl, .inl (Option.some.inj h).symm⟩
      | false => rw [hx] at h; exact lookup_relabel h
structure CompOk (N : List Str) (sc scope : Scope) (N' : List Str) (ix : List (Option Nat)) : Prop where
  cell : ∀ y ∈ scope.names, y.2 ≠ .cell
  kind : scope.kind = .function
  loc : ∀ y ∈ scope.names, y.2 = .local → scope.names.lookup y.1 = some .local
  fre : ∀ y ∈ scope.names, y.2 = .free → sc.names.lookup y.1 = some .cell ∨ sc.names.lookup y.1 = some .free
  len : N'.length = ix.length
  at_ : ∀ p ∈ N'.zip ix, ∀ i, p.2 = some i → N[i]? = some p.1 ∧ scope.names.lookup p.1 ≠ some .local
  nd : N'.Nodup
def sub {α : Type} (ix : List (Option Nat)) (σ : List (Option α)) : List (Option α) := ix.map fun o => match o with
  | some i => (σ[i]?).join
  | none => none
def Xc (X : Cx) (scope : Scope) (C : Addr) (s : Shared) (H : Hp) (fp : List Addr) (N' : List Str) (E : Value → Shared → Prop) : Cx :=
  { X with N := N', s₀ := s, H₀ := H, env := compEnvC scope (clOf X.env.cells scope.names []) C X.env, outer := X.stack, stack := X.stack, ex := fp, fn := fun _ => false, xe := E }
theorem mem_of_lookup {x : Str} {k : NameKind} : ∀ {l : List (Str × NameKind)}, l.lookup x = some k → (x, k) ∈ l
  | [], h => by simp at h
  | (n, k') :: r, h => by
    rw [List.lookup_cons] at h
    cases hx : (x == n) with
    | true =>
      rw [hx] at h
      have : x = n := by simpa using hx
      rw [this, ← Option.some.inj h]
      exact List.mem_cons_self
    | false => rw [hx] at h; exact List.mem_cons_of_mem _ (mem_of_lookup h)
theorem inv_comp {X : Cx} {pins : List (Addr × Obj)} {σ : L2.St} {H : Hp} {s : Shared} {h₁ : Heap} {t : Nat} {scope : Scope} {fp : List Addr} {N' : List Str} {ix : List (Option Nat)} {E : Value → Shared → Prop} (I : Inv X pins σ H s)
    (hf : ∀ b ∈ fp, FpOk X pins H b) (hfl : ∀ b ∈ fp, b < s.heap.objs.size) (ck : CompOk X.N X.env.scope scope N' ix) (hns : ∃ m, h₁.Ns s.heap.objs.size m) (hk : ∀ b o, s.heap.get? b = some o → h₁.get? b = some o) :
    Inv (Xc X scope s.heap.objs.size s H fp N' E) pins (sub ix σ) H { s with heap := h₁, toks := t } := by
  have kf : ∀ x : Str, X.env.kindOf x = X.env.scope.names.lookup x := fun _ => rfl
  have hclos : ∀ x ∈ scope.names, x.2 = .free → ∃ c, X.env.cells.lookup x.1 = some c := fun x hx hfr => I.ok.has x.1 (ck.fre x hx hfr)
  have clS : ∀ n c, (clOf X.env.cells scope.names []).lookup n = some c → X.env.cells.lookup n = some c := clOf_sound hclos (fun n c e => by simp at e)
  have kd : ∀ x k, (relabel scope X.env).names.lookup x = some k → (k = .cell ∨ k = .free) → (x, NameKind.free) ∈ scope.names := fun x k e hk => by
    obtain ⟨k0, e0, h0⟩ := lookup_relabel e
    have m0 := mem_of_lookup e0
    rcases h0 with rfl | ⟨rfl, _⟩
    · rcases hk with rfl | rfl
      · exact absurd rfl (ck.cell _ m0)
      · exact m0
    · exact m0
  have neL : ∀ b, b ∈ frs X.stack → b < s.heap.objs.size := fun b hb => by
    have := I.stack.mem hb
    obtain ⟨_, o, ho, _⟩ := this
    exact Heap.lt_size ho
  refine ⟨?_, rfl, I.bare, Un.kept hk, ?_, ?_, I.hok.fresh (Nat.le_refl _), ?_, ?_, I.hok.kept hk, ?_⟩
  · refine ⟨I.ok.mod, ck.kind, I.ok.glob, I.ok.blt, Nat.le_refl _, fun x y c e1 e2 => I.ok.inj x y c (clS x c e1) (clS y c e2), fun x hx => ?_, fun x c h => (by cases h), I.ok.hd, I.ok.frames, .inl rfl, fun b hb => ?_, fun b o e => I.bs b o e, Nat.le_trans I.ok.bsz I.sz, fun b o e hb => ?_, fun b hb z => ?_, I.stack, fun b hb => I.stkFree b hb⟩
    · rcases hx with hx | hx
      · exact clOf_has x (.inl (kd x _ hx (.inl rfl)))
      · exact clOf_has x (.inl (kd x _ hx (.inr rfl)))
    · exact ⟨Nat.ne_of_lt (hfl b hb), fun x c e => (hf b hb).2.2.2.2.1 x c (clS x c e)⟩
    · rcases (hf b hb).2.2.2.1 with z | z
      · exact I.ok.noex b o e z
      · exact absurd (Nat.lt_of_lt_of_le (Heap.lt_size e) (Nat.le_trans I.ok.bsz z)) (Nat.lt_irrefl _)
    · rcases List.mem_cons.mp (I.stkSub b z) with z | z
      · exact (hf b hb).2.1 z
      · exact (hf b hb).2.2.1 z
  · obtain ⟨m0, hn0⟩ := hns
    refine ⟨m0, hn0, fun j x v e1 e2 e3 => ?_⟩
    have e1' : N'[j]? = some x := e1
    have hj : j < ix.length := by rw [← ck.len]; exact (List.getElem?_eq_some_iff.mp e1').1
    have e2' : ((ix[j]?).map fun o => match o with | some i => (σ[i]?).join | none => none) = some (some v) := by
      unfold sub at e2
      rw [List.getElem?_map] at e2
      exact e2
    rw [List.getElem?_eq_getElem hj] at e2'
    cases ei : ix[j] with
    | none => rw [ei] at e2'; cases e2'
    | some i =>
      rw [ei] at e2'
      have e4 : σ[i]? = some (some v) := by
        have e5 : (σ[i]?).join = some v := Option.some.inj e2'
        cases q : σ[i]? with
        | none => rw [q] at e5; cases e5
        | some o => rw [q] at e5; exact congrArg some e5
      have mem : (x, some i) ∈ N'.zip ix := by
        rw [List.mem_iff_getElem?]
        refine ⟨j, ?_⟩
        rw [List.getElem?_zip_eq_some]
        exact ⟨e1', by rw [List.getElem?_eq_getElem hj, ei]⟩
      obtain ⟨a1, a2⟩ := ck.at_ _ mem i rfl
      have hfree : (x, NameKind.free) ∈ scope.names := by
        rcases e3 with e3 | e3 | e3
        · exfalso
          obtain ⟨k0, e0, h0⟩ := lookup_relabel (env := X.env) (show ((scope.names.map fun (n, k) => if (k == NameKind.free && X.env.scope.kind == .function && X.env.kindOf n == some .cell) then (n, NameKind.cell) else (n, k)).lookup x = some .local) from e3)
          rcases h0 with rfl | ⟨_, h⟩
          · exact a2 e0
          · cases h
        · exact kd x _ e3 (.inl rfl)
        · exact kd x _ e3 (.inr rfl)
      have hout := ck.fre _ hfree rfl
      obtain ⟨m, hn, hl⟩ := I.loc
      obtain ⟨u, r, l⟩ := hl i x v a1 e4 (.inr hout)
      refine ⟨u, r, .inr ⟨?_, ?_⟩⟩
      · rcases e3 with e3 | e3 | e3
        · exfalso
          obtain ⟨k0, e0, h0⟩ := lookup_relabel (env := X.env) (show ((scope.names.map fun (n, k) => if (k == NameKind.free && X.env.scope.kind == .function && X.env.kindOf n == some .cell) then (n, NameKind.cell) else (n, k)).lookup x = some .local) from e3)
          rcases h0 with rfl | ⟨_, h⟩
          · exact a2 e0
          · cases h
        · exact .inl e3
        · exact .inr e3
      · rcases l with ⟨l1, _⟩ | ⟨_, c, e, ⟨oc, hoc, hd⟩⟩
        · exfalso
          have l1' : X.env.scope.names.lookup x = some .local := l1
          rcases hout with h | h
          · have h' : X.env.scope.names.lookup x = some .cell := h
            rw [l1'] at h'; cases h'
          · have h' : X.env.scope.names.lookup x = some .free := h
            rw [l1'] at h'; cases h'
        · obtain ⟨c', e'⟩ := clOf_has (cells := X.env.cells) (names := scope.names) (acc := []) x (.inl hfree)
          have := clS x c' e'
          rw [e] at this
          obtain rfl := Option.some.inj this
          exact ⟨c, e', ⟨oc, hk _ _ hoc, hd⟩⟩
  · intro x c e
    obtain ⟨v, o, ho, hd⟩ := I.cell x c (clS x c e)
    exact ⟨v, o, hk _ _ ho, hd⟩
  · intro x c e
    exact I.freeC x c (clS x c e)
  · intro p hp
    obtain ⟨e, n, ne, nf, d⟩ := I.pin p hp
    refine ⟨hk _ _ e, n, Nat.ne_of_lt (Heap.lt_size e), fun z => ?_, d⟩
    rcases List.mem_cons.mp (I.stkSub p.1 z) with z | z
    · exact ne z
    · exact nf z
  · show (sub ix σ).length = N'.length
    unfold sub
    rw [List.length_map]
    exact ck.len.symm
end BF
set_option Elab.async false
set_option linter.all false
set_option maxRecDepth 100000
set_option maxHeartbeats 4000000
namespace BF
open PySem PySem.Spec L2
theorem compLoop_any {prog : Program} {w : World} {A : Around} {R : Result → Shared → Prop} {s : Shared} {elt target iter : Expr} {scope : Scope} {pos : Pos} {it acc : Value} {env : Env} (I : Nat → Shared → Prop)
    (turn : ∀ n s, I n s → wpAny (model prog w) A (pyNext it) (fun r s₁ => match r with
      | none => R (.ok .next) s₁
      | some v => wpAny (model prog w) A (letOwnedTupleGo target it v) (fun _ s₁' => wpAny (model prog w) A (assign target env v) (fun _ s₂ => wpAny (model prog w) A (eval elt env) (fun x s₃ =>
          wpAny (model prog w) A (call (.builtin "list.append") [acc, x]) (fun _ s₄ => ∃ m, m < n ∧ I m s₄) (notedBy (model prog w) A env fun e s' => R (.error e) s') s₃)
          (notedBy (model prog w) A env fun e s' => R (.error e) s') s₂) (notedBy (model prog w) A env fun e s' => R (.error e) s') s₁') (notedBy (model prog w) A env fun e s' => R (.error e) s') s₁) (notedBy (model prog w) A env fun e s' => R (.error e) s') s)
    (n : Nat) (h : I n s) :
    codeAny (model prog w) A (.compLoop (.ListComp elt [⟨target, iter, [], 0⟩] scope pos) 0 it acc env) R s := by
  refine codeAny_loop rfl I (fun n s hI => ?_) n h
  show wpAny _ _ ((compTurn (.ListComp elt [⟨target, iter, [], 0⟩] scope pos) 0 it acc env).onRaise (fun x => do noteFrame x env; theTreesLotGoes x)) _ _ s
  refine wpAny_noted ?_
  rw [compTurn_list1]
  refine wpAny_bind (wpAny_standAt (wpAny_bind (wpAny_mono (turn n s hI) (fun r s₁ h₁ => ?_) fun _ _ h' => h')))
  cases r with
  | none => exact wpAny_pure h₁
  | some v =>
    refine wpAny_bind (wpAny_mono h₁ (fun _ s₁' h₁' => ?_) fun _ _ h' => h')
    exact wpAny_bind (wpAny_mono h₁' (fun _ s₂ h₂ => wpAny_bind (wpAny_bind (wpAny_mono h₂ (fun x s₃ h₃ => wpAny_bind (wpAny_mono h₃
      (fun _ s₄ h₄ => wpAny_pure (wpAny_pure ⟨rfl, h₄⟩)) fun _ _ h' => h')) fun _ _ h' => h'))) fun _ _ h' => h')
section
variable {X : Cx} {pins : List (Addr × Obj)} {σ σ' : L2.St} {H H' : Hp} {s s' : Shared} {scope : Scope} {fp : List Addr} {N' : List Str} {ix : List (Option Nat)} {E : Value → Shared → Prop}
theorem fpOk_c {H2 : Hp} {b : Addr} (I : Inv X pins σ H s) (hfl : b < s.heap.objs.size) (hb : b ∈ fp) (hf : FpOk X pins H b) (hn : H2 b = none) (ck : CompOk X.N X.env.scope scope N' ix) : FpOk (Xc X scope s.heap.objs.size s H fp N' E) pins H2 b := by
  obtain ⟨f0, f1, f2, f3, f4, f5⟩ := hf
  have hclos : ∀ x ∈ scope.names, x.2 = .free → ∃ c, X.env.cells.lookup x.1 = some c := fun x hx hfr => I.ok.has x.1 (ck.fre x hx hfr)
  refine ⟨hn, Nat.ne_of_lt hfl, fun z => ?_, .inl hb, fun x c e => f4 x c (clOf_sound hclos (fun n c e => by simp at e) x c e), f5⟩
  rcases List.mem_cons.mp (I.stkSub b z) with z | z
  · exact f1 z
  · exact f2 z
theorem comp_back {pins' : List (Addr × Obj)} {h'' : Heap} (I : Inv X pins σ H s) (hf : ∀ b ∈ fp, FpOk X pins H b) (I' : Inv (Xc X scope s.heap.objs.size s H fp N' E) pins' σ' H' s') (sb : Heap.SameBut s.heap.objs.size s'.heap h'') : Inv X pins σ H' { s' with heap := h'' } := by
  have low : ∀ {b : Addr} {o : Obj}, s.heap.get? b = some o → b ≠ s.heap.objs.size := fun e => Nat.ne_of_lt (Heap.lt_size e)
  have u := I'.base
  have u' : Un (frs X.stack) fp H H' s.heap h'' := by
    refine ⟨fun b o e n h1 h2 => (sb.2 b (low e)).trans (u.keep b o e n h1 h2), fun b o e n h1 h2 => ?_, u.free, fun b o e h => ?_, u.tups, u.frzs, u.tbls⟩
    · obtain ⟨sl, q⟩ := u.slot b o e n h1 h2
      exact ⟨sl, (sb.2 b (low e)).trans q⟩
    · obtain ⟨o', q⟩ := u.there b o e h
      exact ⟨o', (sb.2 b (low e)).trans q⟩
  have hfree : H' s.heap.objs.size = none := I'.free
  refine I.call' (s' := { s' with heap := h'' }) (ch := fp) I'.os u' (fun b o e => ?_) I'.bare fun b hb => ?_
  · have nb : ∀ c u, H' c = some u → c ≠ s.heap.objs.size := fun c u e z => by rw [z, hfree] at e; cases e
    refine (I'.hok b o e).stay (fun c v hc q => (sb.2 c ?_).trans q) (fun _ q => q) fun _ _ q => q
    rcases hc with z | z
    · rw [z]; exact nb b o e
    · exact nb c _ z
  · obtain ⟨_, f1, _, f3, f4, f5⟩ := hf b hb
    exact ⟨f3, f1, f4, f5⟩
end
def tCompW (J : It) (g : TG) (te : TE) (ix : List (Option Nat)) (σ : L2.St) (H1 : Hp) (D : Addr) (Q : Hp → Prop) : Prop :=
  ∃ W : Nat → Nat → Hp → Prop, (∃ m, W 0 m (upd H1 D (.lst []))) ∧ ∀ i m H2, W i m H2 →
    (J.stop i H2 ∧ Q H2) ∨ (J.go i H2 ∧ ∀ x H3, J.yld i H2 x H3 → g x (sub ix σ) H3 fun σ4 H4 => (∀ (j : Nat) v, (sub ix σ)[j]? = some (some v) → σ4[j]? = some (some v)) ∧ te σ4 H4 fun y H5 => ∃ ys, H5 D = some (.lst ys) ∧ ys.length < sizeLine ∧ ∃ m', m' < m ∧ W (i + 1) m' (upd H5 D (.lst (ys ++ [y]))))
abbrev XF : Value → Shared → Prop := fun _ _ => False
theorem comp_block {X : Cx} {pins : List (Addr × Obj)} {σ : L2.St} {H : Hp} {s : Shared} {elt iter tg : Expr} {scope : Scope} {pos : Pos} {g : TG} {te : TE} {N' : List Str} {ix : List (Option Nat)} {RR : Value → Addr → Result → Shared → Prop} {E : Value → Shared → Prop} {it : Addr} {fp : List Addr} {tn : Nat → Heap → Prop} {J : It} {Q : Addr → Hp → Prop}
    (hc : X.calm = true) (ck : CompOk X.N X.env.scope scope N' ix) (hg : ∀ C s H fp, PG (Xc X scope C s H fp N' XF) tg g) (he : ∀ C s H fp, PE (Xc X scope C s H fp N' XF) elt te)
    (I : Inv X pins σ H s) (T : Turn X.prog X.w X.K tg J fp it tn) (st : tn 0 s.heap) (hf : ∀ b ∈ fp, FpOk X pins H b) (hR : ∀ D, H D = none → tCompW J g te ix σ H D (Q D))
    (hRR : ∀ D C s' H', FpOk X pins H' C → X.env.locals ≠ C → s'.os = s.os → (∃ m, s'.heap.Ns C m) → (∀ h'', Heap.SameBut C s'.heap h'' → Inv X pins σ H' { s' with heap := h'' }) → Q D H' → RR (.ref D) C (.ok .next) s') :
    wpAny (model X.prog X.w) X.A (newList []) (fun acc s₃ => wpAny (model X.prog X.w) X.A (newFunctionEnv scope X.env.globals (clOf X.env.cells scope.names []) [] X.env.qual none .none (some X.env)) (fun cenv s₄ =>
      codeAny (model X.prog X.w) X.A (.compStart (.ListComp elt [⟨tg, iter, [], 0⟩] scope pos) 0 (.ref it) acc { cenv with scope := relabel scope X.env }) (RR acc cenv.locals) s₄) E s₃) E s := by
  refine wpAny_newObj_type (wpAny_newFunctionEnv ck.cell (by intro y hy; simp at hy) (fun h₁ hns₁ hsb₁ => ?_) ck.kind)
  have I3 : Inv X pins σ (upd H s.heap.objs.size (.lst [])) { s with heap := s.heap.push { cls := .type "list", data := .seq ([] : List Value).toArray }, toks := s.toks } := I.lnew (its := []) (ys := []) .nil (by simp)
  have hfl : ∀ b ∈ fp, b < s.heap.objs.size := fun b hb => by
    obtain ⟨o, e, _⟩ := T.obj 0 _ st b hb
    exact Heap.lt_size e
  have hf3 : ∀ b ∈ fp, FpOk X pins (upd H s.heap.objs.size (.lst [])) b := fun b hb => by
    obtain ⟨f0, fr⟩ := hf b hb
    exact ⟨by rw [upd_ne (Nat.ne_of_lt (hfl b hb))]; exact f0, fr⟩
  obtain ⟨W, ⟨m0, w0⟩, turn⟩ := hR s.heap.objs.size I.fresh
  generalize eD : s.heap.objs.size = D at *
  have e3 : ({ s with heap := s.heap.push { cls := .type "list", data := .seq ([] : List Value).toArray }, toks := s.toks } : Shared) = { s with heap := s.heap.push { cls := .type "list", data := .seq ([] : List Value).toArray } } := rfl
  rw [e3] at I3
  generalize es3 : ({ s with heap := s.heap.push { cls := .type "list", data := .seq ([] : List Value).toArray } } : Shared) = s3 at *
  have os3 : s3.os = s.os := by rw [← es3]
  have hp3 : s3.heap = s.heap.push { cls := .type "list", data := .seq ([] : List Value).toArray } := by rw [← es3]
  have hfl3 : ∀ b ∈ fp, b < s3.heap.objs.size := fun b hb => by
    rw [hp3, Heap.size_push]; exact Nat.lt_succ_of_lt (by rw [eD]; exact hfl b hb)
  have hns : ∃ m, h₁.Ns s3.heap.objs.size m := ⟨_, hns₁⟩
  have hk : ∀ b o, s3.heap.get? b = some o → h₁.get? b = some o := fun b o e => hsb₁.extBut b o (Nat.ne_of_lt (Heap.lt_size e)) (Heap.get?_push_of_some _ e)
  have I4 : ∀ t, Inv (Xc X scope s3.heap.objs.size s3 (upd H D (.lst [])) fp N' XF) pins (sub ix σ) (upd H D (.lst [])) { s3 with heap := h₁, toks := t } := fun t => inv_comp I3 hf3 hfl3 ck hns hk
  have st4 : tn 0 h₁ := T.keep _ _ _ st fun b hb o e => hk b o (by rw [hp3]; exact Heap.get?_push_of_some _ e)
  have loop : ∀ s₄ : Shared, s₄ = { s3 with heap := h₁, toks := s3.toks + ([] : List (Str × Value)).length } →
      codeAny (model X.prog X.w) X.A (.compLoop (.ListComp elt [⟨tg, iter, [], 0⟩] scope pos) 0 (.ref it) (.ref D) (Xc X scope s3.heap.objs.size s3 (upd H D (.lst [])) fp N' XF).env) (RR (.ref D) s3.heap.objs.size) s₄ := by
    rintro s₄ rfl
    have stat : ∀ {H2 : Hp}, (∀ b ∈ fp, H2 b = none) → ∀ b ∈ fp, FpOk (Xc X scope s3.heap.objs.size s3 (upd H D (.lst [])) fp N' XF) pins H2 b := fun hn b hb => fpOk_c I3 (hfl3 b hb) hb (hf3 b hb) (hn b hb) ck
    refine compLoop_any (fun n s' => ∃ i H', Inv (Xc X scope s3.heap.objs.size s3 (upd H D (.lst [])) fp N' XF) pins (sub ix σ) H' s' ∧ tn i s'.heap ∧ (∀ b ∈ fp, H' b = none) ∧ W i n H') ?_ m0 ⟨0, _, I4 _, st4, fun b hb => (hf3 b hb).1, w0⟩
    rintro n s5 ⟨i, H5, I5, st5, fr5, w5⟩
    rcases turn i n H5 w5 with ⟨stop, qn⟩ | ⟨go, step⟩
    · refine thn (T.done (Xc X scope s3.heap.objs.size s3 (upd H D (.lst [])) fp N' XF) rfl rfl rfl hc i pins s5 _ H5 _ I5 (stat fr5) st5 stop) fun r s6 ⟨hr, I6⟩ => ?_
      subst hr
      obtain ⟨m6, hn6, _⟩ := I6.loc
      exact hRR D s3.heap.objs.size s6 H5 (I3.fpOk (Nat.le_refl _) I6.free) (Nat.ne_of_lt I3.lt) (I6.os.trans os3) ⟨m6, hn6⟩ (fun h'' sb => comp_back I3 hf3 I6 sb) qn
    · refine thn (T.item (Xc X scope s3.heap.objs.size s3 (upd H D (.lst [])) fp N' XF) rfl rfl rfl hc i pins s5 _ H5 _ I5 (stat fr5) st5 go) fun r s6 ⟨u, hr, h6⟩ => ?_
      subst hr
      refine thn h6 fun _ s7 ⟨x, H7, I7, r7, y7, st7, fr7⟩ => ?_
      have I7' := I7.pinned (stat fr7) (T.obj _ _ st7)
      refine wpAny_mono (hg _ _ _ _ _ s7 (sub ix σ) H7 x u _ I7' r7 (step x H7 y7)) (fun _ s8 ⟨σ8, H8, I8, wk8, q8⟩ => ?_) fun _ _ f => f.elim
      refine wpAny_mono (he _ _ _ _ _ s8 σ8 H8 _ I8 q8) (fun v9 s9 ⟨y, H9, I9, r9, q9⟩ => ?_) fun _ _ f => f.elim
      obtain ⟨ys, hD, hz, m', hm, w'⟩ := q9
      have ap := mt_append (X := Xc X scope s3.heap.objs.size s3 (upd H D (.lst [])) fp N' XF) _ s9 σ8 H9 (.ref D) [y] (.ref D) [v9] (fun _ H10 => W (i + 1) m' H10) I9 rfl (.cons r9 .nil) ⟨D, ys, y, rfl, rfl, hD, hz, w'⟩
      refine wpAny_mono ap (fun u10 s10 ⟨z10, H10, I10, _, w10⟩ => ?_) fun _ _ f => f.elim
      refine ⟨m', hm, i + 1, H10, ?_, T.keep _ _ _ st7 fun b hb o e => (I10.pin (b, o) (List.mem_append_right _ (List.mem_append_right _ (mem_pinsAt hb e)))).1, fun b hb => ?_, w10⟩
      · refine I10.unpinned.weak ?_ fun j v e => ?_
        · exact (I5.len).trans I10.len.symm
        · exact wk8 j v e
      · obtain ⟨o, e, d⟩ := T.obj _ _ st7 b hb
        exact (I10.pin (b, o) (List.mem_append_right _ (List.mem_append_right _ (mem_pinsAt hb e)))).2.1
  exact codeAny_compStart_list (loop _ rfl) (T.self _ 0 _ _ _ st4 (loop _ rfl))
def tComp (wi : TI) (g : TG) (te : TE) (ix : List (Option Nat)) : TE := fun σ H Q => wi σ H fun J H1 => ∀ D, H1 D = none → tCompW J g te ix σ H1 D fun H2 => Q (.ref D) H2
theorem hclos_of {X : Cx} {pins : List (Addr × Obj)} {σ : L2.St} {H : Hp} {s : Shared} {scope : Scope} {N' : List Str} {ix : List (Option Nat)} (I : Inv X pins σ H s) (ck : CompOk X.N X.env.scope scope N' ix) : closureFor scope X.env = pure (clOf X.env.cells scope.names []) :=
  closure_of fun x hx hfr => I.ok.has x.1 (ck.fre x hx hfr)
theorem pe_comp {X : Cx} {elt iter tg : Expr} {scope : Scope} {pos : Pos} {wi : TI} {g : TG} {te : TE} {N' : List Str} {ix : List (Option Nat)} (hc : X.calm = true) (ck : CompOk X.N X.env.scope scope N' ix) (hi : PI X tg iter wi)
    (hg : ∀ C s H fp, PG (Xc X scope C s H fp N' XF) tg g) (he : ∀ C s H fp, PE (Xc X scope C s H fp N' XF) elt te) (hs : ∀ x, foldedSetIterable iter X.env x = pure x := by intro _; rfl) :
    PE X (.ListComp elt [⟨tg, iter, [], 0⟩] scope pos) (tComp wi g te ix) := by
  intro pins s σ H Q I h
  rw [eval_ListComp]
  refine wpAny_comprehension_free (use := none) rfl hs (hclos_of I ck) ck.kind ck.loc (thn (hi pins s σ H _ I h) fun v s1 h1 => thn h1 fun itv s2 h2 => ?_)
  obtain ⟨it, fp, tn, J, H2, e, I2, T, st2, f2, q2⟩ := h2
  subst e
  refine comp_block (RR := fun acc C => compPost (model X.prog X.w) X.A X.xe none (EP X pins σ Q) acc C) hc ck hg he I2 T st2 f2 q2 fun D C s' H' _ _ _ hm hI q => ?_
  obtain ⟨m, hn⟩ := hm
  exact ⟨m, hn, fun h' sb => ⟨.ref D, H', hI h' sb, rfl, q⟩⟩
theorem ps_setComp {X : Cx} {elt iter tg : Expr} {scope : Scope} {pos spos pos' : Pos} {wi : TI} {g : TG} {te : TE} {N' : List Str} {ix : List (Option Nat)} {i : Nat} {y : Str} (hc : X.calm = true) (ck : CompOk X.N X.env.scope scope N' ix) (hi : PI X tg iter wi)
    (hg : ∀ C s H fp, PG (Xc X scope C s H fp N' XF) tg g) (he : ∀ C s H fp, PE (Xc X scope C s H fp N' XF) elt te) (hN : X.N.Nodup) (hiy : X.N[i]? = some y) (hy : Loc X.env.scope y)
    (hsw : swapsWith (.ListComp elt [⟨tg, iter, [], 0⟩] scope pos) (some (.Name y pos')) spos.line X.env = pure true := by rfl) (hs : ∀ x, foldedSetIterable iter X.env x = pure x := by intro _; rfl)
    (hf : X.fn y = true ∨ X.env.scope.names.lookup y = some .local := by first | exact .inl rfl | exact .inr rfl | assumption) :
    PS X (.Assign [.Name y pos'] (.ListComp elt [⟨tg, iter, [], 0⟩] scope pos) spos) (tAsg (tComp wi g te ix) (gName i)) := by
  intro pins s σ H D I h
  rw [exec_Assign_Name_used _ _ _ _ hsw]
  refine wpAny_bind (wpAny_standAt (wpAny_bind ?_))
  show wpAny _ X.A (do let _ ← comprehension (.ListComp elt [⟨tg, iter, [], 0⟩] scope pos) scope X.env _ (newList []) false (eval iter X.env) (some (assign (.Name y pos') X.env))) _ _ s
  refine wpAny_bind (wpAny_mono (wpAny_comprehension_free (use := some (assign (.Name y pos') X.env)) (Q := fun _ s' => SP X pins D .next s') rfl hs (hclos_of I ck) ck.kind ck.loc
    (thn (hi pins s σ H _ I h) fun v s1 h1 => thn h1 fun itv s2 h2 => ?_)) (fun _ s' hq => wpAny_pure (wpAny_pure hq)) fun _ _ e => e)
  obtain ⟨it, fp, tn, J, H2, e, I2, T, st2, f2, q2⟩ := h2
  subst e
  refine comp_block (RR := fun acc C => compPost (model X.prog X.w) X.A X.xe (some (assign (.Name y pos') X.env)) (fun _ s' => SP X pins D .next s') acc C) hc ck hg he I2 T st2 f2 q2 fun Dd C s' H' fC hLC _ hm hI q => ?_
  obtain ⟨m, hn⟩ := hm
  show wpAny _ X.A (assign (.Name y pos') X.env (.ref Dd)) _ _ _
  have I0 : Inv X pins σ H' s' := hI s'.heap (.refl ..)
  refine wpAny_assign_Name (store_ok2 (v := .ref Dd) I0 hN hiy hy rfl (fun s2 I2 ⟨a, sb2, ha⟩ => ?_) hf)
  obtain ⟨f0, f1, _, f3, f4, f5⟩ := fC
  have hCa : C ≠ a := by
    rcases ha with rfl | ha
    · exact Ne.symm hLC
    · exact Ne.symm (f4 _ _ ha)
  refine ⟨m, hn.sameBut sb2 hCa, fun h' sb => ?_⟩
  exact ⟨_, H', I2.turned (t' := s2.toks) (fun b o hb e => (sb.2 b hb).trans e) f0 f1 f3 f4 f5, q⟩
end BF
set_option Elab.async false
set_option linter.all false
set_option maxRecDepth 100000
set_option maxHeartbeats 4000000
namespace BF
open PySem PySem.Spec L2
noncomputable def okB (p : Prop) : Bool := @decide p (Classical.propDecidable p)
theorem okB_iff {p : Prop} : okB p = true ↔ p := by unfold okB; exact @decide_eq_true_iff p (Classical.propDecidable p)
theorem okB_of {p : Prop} (h : p) : okB p = true := okB_iff.mpr h
noncomputable section
def dt (f : EF) : List Sl → Option Dm := fun δ => (f δ).map Rs.dat
theorem fz_some {f : EF} {δ : List Sl} {r : Rs} (e : f δ = some r) : fz f δ = some r.fz := by unfold fz; rw [e]; rfl
theorem dt_some {f : EF} {δ : List Sl} {d : Dm} (e : dt f δ = some d) : ∃ r, f δ = some r ∧ r.dat = d := by
  unfold dt at e
  cases h : f δ with
  | none => rw [h] at e; cases e
  | some r => rw [h] at e; exact ⟨r, rfl, Option.some.inj e⟩
theorem run1 {K : PySem.W.Frag} {B G0 G : Hp} {δ : List Sl} {σ : L2.St} {H : Hp} {r : Rs} {Q R : VK} {f : EF} {ra : Rs} (k : KD K B G0 G δ σ H r Q) (e : f δ = some ra)
    (h : ∀ x G1 H1, KD K B G0 G1 δ σ H1 r Q → Gr G H G1 H1 → RsR K H G1 H1 δ σ ra.fz x → R x H1) : tD K (fz f) σ H R :=
  ⟨B, G0, G, δ, ra.fz, k.sim, fz_some e, fun x G1 H1 S1 g1 q1 => h x G1 H1 (k.step S1 g1) g1 q1⟩
section
variable {X : Cx}
def fVar (i : Nat) : EF := fun δ => match δ[i]? with
  | some (.sh d) => some (.sh d)
  | some (.ow ds) => some (.al i ds)
  | some (.so _ d) => some (.sh d)
  | some (.pt _ _ d) => some (.sh d)
  | _ => none
def fC (d : Dm) : EF := fun _ => some (.sh d)
def Dm.scal : Dm → Bool
  | .lst _ => false
  | .tup _ => false
  | .dct _ _ => false
  | _ => true
def vOf : Dm → V
  | .non => .non
  | .bl b => .bl b
  | .int i => .int i
  | .str x => .str x
  | _ => .non
theorem rep_scal {K : PySem.W.Frag} {G : Hp} {d : Dm} (h : d.scal = true) : Rep K G d (vOf d) := by
  cases d with
  | lst ds => exact absurd (show false = true from h) Bool.false_ne_true
  | tup ds => exact absurd (show false = true from h) Bool.false_ne_true
  | dct ks ds => exact absurd (show false = true from h) Bool.false_ne_true
  | _ => unfold Rep; rfl
theorem pd_var (i : Nat) {x : Str} {pos : Pos} (hN : X.N[i]? = some x := by rfl) (hv : Vis X.env.scope x := by first | exact Or.inl rfl | exact Or.inr (Or.inl rfl) | exact Or.inr (Or.inr rfl))
    (hd : (x == ("__debug__" : Str)) = false := by decide +kernel) (hcd : (x == ("__classdict__" : Str)) = false := by decide +kernel) : PD X (.Name x pos) (fVar i) := by
  refine PE.imp (pe_var (i := i) hN hv hd hcd) fun σ H Q h => ?_
  obtain ⟨B, G0, G, δ, r, S, e, k⟩ := h
  unfold fVar at e
  cases q : δ[i]? with
  | none => rw [q] at e; cases e
  | some s =>
    rw [q] at e
    cases s with
    | un => cases e
    | sh d =>
      cases e
      obtain ⟨v, e1, e2⟩ := S.slot i _ q
      exact ⟨v, e1, k v G H S Gr.refl e2⟩
    | ow ds =>
      cases e
      obtain ⟨p, xs, e1, _⟩ := S.slot i _ q
      exact ⟨.ref p, e1, k _ G H S Gr.refl ⟨q, e1⟩⟩
    | so C d =>
      cases e
      obtain ⟨v, e1, e2, z⟩ := S.slot i _ q
      exact ⟨v, e1, k v G H S Gr.refl (Rep.mono z e2)⟩
    | pt p kk d =>
      cases e
      obtain ⟨v, xs, e1, e2, _⟩ := S.slot i _ q
      exact ⟨v, e1, k v G H S Gr.refl e2⟩
    | xc C => cases e
    | od ks ds => cases e
    | oT ks ds => cases e
theorem pd_int {i j pos} : PD X (.Constant (.int i) j pos) (fC (.int i)) := PE.imp pe_int fun σ H Q h => by
  obtain ⟨B, G0, G, δ, r, S, e, k⟩ := h
  cases e
  exact k _ G H S Gr.refl (rep_scal rfl)
theorem pd_bl {i j pos} : PD X (.Constant (.bool i) j pos) (fC (.bl i)) := PE.imp pe_bl fun σ H Q h => by
  obtain ⟨B, G0, G, δ, r, S, e, k⟩ := h
  cases e
  exact k _ G H S Gr.refl (rep_scal rfl)
theorem pd_str {i j pos} : PD X (.Constant (.str i) j pos) (fC (.str i)) := PE.imp pe_str fun σ H Q h => by
  obtain ⟨B, G0, G, δ, r, S, e, k⟩ := h
  cases e
  exact k _ G H S Gr.refl (rep_scal rfl)
def op2 (o : Dm → Dm → Option Dm) (fa fb : EF) : EF := fun δ => (dt fa δ).bind fun a => (dt fb δ).bind fun b => (o a b).map .sh
def Op2 (K : PySem.W.Frag) (r : R2) (o : Dm → Dm → Option Dm) : Prop := ∀ x y H a b d Q, Rep K H a x → Rep K H b y → o a b = some d → d.scal = true ∧ (Q (vOf d) H → r x y H Q)
theorem op2_run {K : PySem.W.Frag} {r : R2} {o : Dm → Dm → Option Dm} {fa fb : EF} (h2 : Op2 K r o) {σ : L2.St} {H : Hp} {Q : VK} (h : tD K (op2 o fa fb) σ H Q) : tOp r (tD K (fz fa)) (tD K (fz fb)) σ H Q := by
  obtain ⟨B, G0, G, δ, r0, S, e, k⟩ := h
  obtain ⟨a, ea, e⟩ := Option.bind_eq_some_iff.mp e
  obtain ⟨b, eb, e⟩ := Option.bind_eq_some_iff.mp e
  obtain ⟨d, ed, e⟩ := Option.map_eq_some_iff.mp e
  subst e
  obtain ⟨ra, era, rfl⟩ := dt_some ea
  obtain ⟨rb, erb, rfl⟩ := dt_some eb
  refine run1 ⟨S, k⟩ era fun x G1 H1 k1 g1 q1 => run1 k1 erb fun y G2 H2 k2 g2 q2 => ?_
  have r1 := RsR.rep k2.sim (q1.mono (H' := H2) (B'' := H2) ra.fz_still g2.gg)
  have r2 := RsR.rep k2.sim q2
  rw [Rs.fz_dat] at r1 r2
  obtain ⟨sc, go⟩ := h2 x y H2 _ _ d Q r1 r2 ed
  exact go (k2.now (rep_scal sc))
theorem pd_op2 {op : Operator} {a b : Expr} {pos : Pos} {r : R2} {o : Dm → Dm → Option Dm} {fa fb : EF} (ho : OpR X (binaryOp op) r) (h2 : Op2 X.K r o) (ha : PD X a fa) (hb : PD X b fb) : PD X (.BinOp a op b pos) (op2 o fa fb) :=
  PE.imp (pe_op ho ha.fz hb.fz) fun _ _ _ h => op2_run h2 h
theorem pd_cmp {op : CmpOp} {a b : Expr} {pos : Pos} {r : R2} {o : Dm → Dm → Option Dm} {fa fb : EF} (ho : OpR X (compareOp op) r) (h2 : Op2 X.K r o) (ha : PD X a fa) (hb : PD X b fb) (hm : behindInMarks op b = false) : PD X (.Compare a [op] [b] pos) (op2 o fa fb) :=
  PE.imp (pe_cmpR ho ha.fz hb.fz hm) fun _ _ _ h => op2_run h2 h
def oI (C : Int → Int → Bool) (g : Int → Int → Dm) : Dm → Dm → Option Dm
  | .int i, .int j => if C i j then some (g i j) else none
  | _, _ => none
theorem oI_some {C : Int → Int → Bool} {g : Int → Int → Dm} {a b d : Dm} (e : oI C g a b = some d) : ∃ i j, a = .int i ∧ b = .int j ∧ C i j = true ∧ d = g i j := by
  unfold oI at e
  split at e
  · rename_i i j
    split at e
    · rename_i h; exact ⟨i, j, rfl, rfl, h, (Option.some.inj e).symm⟩
    · cases e
  · cases e
theorem op2_I {K : PySem.W.Frag} {Cp : Int → Int → Prop} {C : Int → Int → Bool} {g : Int → Int → Int} (hC : ∀ i j, C i j = true → Cp i j) : Op2 K (rI Cp fun i j => .int (g i j)) (oI C fun i j => .int (g i j)) := by
  intro x y H a b d Q ra rb e
  obtain ⟨i, j, rfl, rfl, hc, rfl⟩ := oI_some e
  unfold Rep at ra rb
  exact ⟨rfl, fun q => ⟨i, j, ra, rb, hC i j hc, q⟩⟩
theorem op2_I0 {K : PySem.W.Frag} {g : Int → Int → Int} : Op2 K (rI0 fun i j => .int (g i j)) (oI (fun _ _ => true) fun i j => .int (g i j)) := by
  intro x y H a b d Q ra rb e
  obtain ⟨i, j, rfl, rfl, hc, rfl⟩ := oI_some e
  unfold Rep at ra rb
  exact ⟨rfl, fun q => ⟨i, j, ra, rb, q⟩⟩
theorem op2_B0 {K : PySem.W.Frag} {g : Int → Int → Bool} : Op2 K (rI0 fun i j => .bl (g i j)) (oI (fun _ _ => true) fun i j => .bl (g i j)) := by
  intro x y H a b d Q ra rb e
  obtain ⟨i, j, rfl, rfl, hc, rfl⟩ := oI_some e
  unfold Rep at ra rb
  exact ⟨rfl, fun q => ⟨i, j, ra, rb, q⟩⟩
def oAdd := oI (fun _ _ => true) fun i j => .int (i + j)
def oSub := oI (fun _ _ => true) fun i j => .int (i - j)
def mulOk (a b : Int) : Bool := okB (IntMulOk a b)
def oMul := oI mulOk fun i j => .int (i * j)
def divOk (j : Int) : Bool := okB (0 < j ∧ j.natAbs.log2 < 9000)
def posOk (j : Int) : Bool := okB (0 < j)
def nnOk (j : Int) : Bool := okB (0 ≤ j)
def oDiv := oI (fun _ j => divOk j) fun i j => .int (i / j)
def oMod := oI (fun _ j => posOk j) fun i j => .int (i % j)
def powOk (i j : Int) : Bool := okB (0 ≤ j ∧ j ≤ 1000000 ∧ i.natAbs < 2 ^ 64)
def oPow := oI powOk fun i j => .int (i ^ j.toNat)
def oShl := oI powOk fun i j => .int (i * 2 ^ j.toNat)
def oShr := oI (fun _ j => nnOk j) fun i j => .int (i / 2 ^ j.toNat)
def oAnd := oI (fun _ _ => true) fun i j => .int (Builtin.bitAnd i j)
def oOr := oI (fun _ _ => true) fun i j => .int (Builtin.bitOr i j)
def oXor := oI (fun _ _ => true) fun i j => .int (Builtin.bitXor i j)
def oLt := oI (fun _ _ => true) fun i j => .bl (decide (i < j))
def oLe := oI (fun _ _ => true) fun i j => .bl (decide (i ≤ j))
def oGt := oI (fun _ _ => true) fun i j => .bl (decide (j < i))
def oGe := oI (fun _ _ => true) fun i j => .bl (decide (j ≤ i))
section
variable {a b : Expr} {pos : Pos} {fa fb : EF}
theorem pd_add (ha : PD X a fa) (hb : PD X b fb) : PD X (.BinOp a .Add b pos) (op2 oAdd fa fb) := pd_op2 op_add op2_I0 ha hb
theorem pd_sub (ha : PD X a fa) (hb : PD X b fb) : PD X (.BinOp a .Sub b pos) (op2 oSub fa fb) := pd_op2 op_sub op2_I0 ha hb
theorem pd_mul (ha : PD X a fa) (hb : PD X b fb) : PD X (.BinOp a .Mult b pos) (op2 oMul fa fb) := pd_op2 op_mulB (op2_I fun i j h => okB_iff.mp h) ha hb
theorem pd_div (ha : PD X a fa) (hb : PD X b fb) : PD X (.BinOp a .FloorDiv b pos) (op2 oDiv fa fb) := pd_op2 op_fdivB (op2_I fun i j h => okB_iff.mp h) ha hb
theorem pd_mod (ha : PD X a fa) (hb : PD X b fb) : PD X (.BinOp a .Mod b pos) (op2 oMod fa fb) := pd_op2 op_mod (op2_I fun i j h => okB_iff.mp h) ha hb
theorem pd_pow (ha : PD X a fa) (hb : PD X b fb) : PD X (.BinOp a .Pow b pos) (op2 oPow fa fb) := pd_op2 op_pow (op2_I fun i j h => okB_iff.mp h) ha hb
theorem pd_shl (ha : PD X a fa) (hb : PD X b fb) : PD X (.BinOp a .LShift b pos) (op2 oShl fa fb) := pd_op2 op_shl (op2_I fun i j h => okB_iff.mp h) ha hb
theorem pd_shr (ha : PD X a fa) (hb : PD X b fb) : PD X (.BinOp a .RShift b pos) (op2 oShr fa fb) := pd_op2 op_shr (op2_I fun i j h => okB_iff.mp h) ha hb
theorem pd_band (ha : PD X a fa) (hb : PD X b fb) : PD X (.BinOp a .BitAnd b pos) (op2 oAnd fa fb) := pd_op2 op_and op2_I0 ha hb
theorem pd_xor (ha : PD X a fa) (hb : PD X b fb) : PD X (.BinOp a .BitXor b pos) (op2 oXor fa fb) := pd_op2 op_xor op2_I0 ha hb
theorem pd_lt (ha : PD X a fa) (hb : PD X b fb) : PD X (.Compare a [.Lt] [b] pos) (op2 oLt fa fb) := pd_cmp op_lt op2_B0 ha hb (nomark _)
theorem pd_le (ha : PD X a fa) (hb : PD X b fb) : PD X (.Compare a [.LtE] [b] pos) (op2 oLe fa fb) := pd_cmp op_le op2_B0 ha hb (nomark _)
end
def oEq (neg : Bool) : Dm → Dm → Option Dm := fun a b => if okEq a && okEq b then some (.bl (if neg then !eqD a b else eqD a b)) else none
theorem op2_eq {K : PySem.W.Frag} (neg : Bool) : Op2 K (rEqD K neg) (oEq neg) := by
  intro x y H a b d Q ra rb e
  unfold oEq at e
  by_cases hc : (okEq a && okEq b) = true
  · rw [if_pos hc] at e; cases e
    rw [Bool.and_eq_true] at hc
    exact ⟨rfl, fun q => ⟨a, b, ra, rb, hc.1, hc.2, q⟩⟩
  · rw [if_neg hc] at e; cases e
theorem pd_eq {a b : Expr} {pos : Pos} {fa fb : EF} (hu : X.A.units + 64 < cLine) (ha : PD X a fa) (hb : PD X b fb) : PD X (.Compare a [.Eq] [b] pos) (op2 (oEq false) fa fb) := pd_cmp (op_eqD hu) (op2_eq false) ha hb (nomark _)
def Dm.int? : Dm → Option Int
  | .int i => some i
  | _ => none
theorem int_some {d : Dm} {i : Int} (e : d.int? = some i) : d = .int i := by
  cases d <;> first | (cases e; done) | (have e' := Option.some.inj e; rw [e'])
def fNeg (fa : EF) : EF := fun δ => (dt fa δ).bind fun a => a.int?.map fun i => .sh (.int (-i))
theorem pd_neg {a : Expr} {pos : Pos} {fa : EF} (ha : PD X a fa) : PD X (.UnaryOp .USub a pos) (fNeg fa) := PE.imp (pe_un un_neg ha.fz) fun σ H Q h => by
  obtain ⟨B, G0, G, δ, r0, S, e, k⟩ := h
  obtain ⟨a, ea, e⟩ := Option.bind_eq_some_iff.mp e
  obtain ⟨ra, era, rfl⟩ := dt_some ea
  refine run1 ⟨S, k⟩ era fun x G1 H1 k1 g1 q1 => ?_
  have r1 := RsR.rep k1.sim q1
  obtain ⟨i, ei, e⟩ := Option.map_eq_some_iff.mp e
  subst e
  rw [Rs.fz_dat, int_some ei] at r1
  unfold Rep at r1
  exact ⟨_, r1, k1.now (rep_scal rfl)⟩
def Dm.lst? : Dm → Option (List Dm)
  | .lst ds => some ds
  | _ => none
theorem lst_some {d : Dm} {ds : List Dm} (e : d.lst? = some ds) : d = .lst ds := by
  cases d <;> first | (cases e; done) | (have e' := Option.some.inj e; rw [e'])
def fCat (fa fb : EF) : EF := fun δ => (dt fa δ).bind fun a => (dt fb δ).bind fun b => a.lst?.bind fun xs => b.lst?.bind fun ys => if xs.length + ys.length ≤ sizeLine then some (.ow (xs ++ ys)) else none
theorem pd_cat {a b : Expr} {pos : Pos} {fa fb : EF} (ha : PD X a fa) (hb : PD X b fb) : PD X (.BinOp a .Add b pos) (fCat fa fb) := PE.imp (pe_op op_catQ ha.fz hb.fz) fun σ H Q h => by
  obtain ⟨B, G0, G, δ, r0, S, e, k⟩ := h
  obtain ⟨a, ea, e⟩ := Option.bind_eq_some_iff.mp e
  obtain ⟨b, eb, e⟩ := Option.bind_eq_some_iff.mp e
  obtain ⟨ra, era, rfl⟩ := dt_some ea
  obtain ⟨rb, erb, rfl⟩ := dt_some eb
  obtain ⟨xs, ex, e⟩ := Option.bind_eq_some_iff.mp e
  obtain ⟨ys, ey, e⟩ := Option.bind_eq_some_iff.mp e
  refine run1 ⟨S, k⟩ era fun x G1 H1 k1 g1 q1 => run1 k1 erb fun y G2 H2 k2 g2 q2 => ?_
  by_cases hc : xs.length + ys.length ≤ sizeLine
  · rw [if_pos hc] at e; cases e
    obtain ⟨l, vs, rfl, hl, rl⟩ := RsR.lst k2.sim (q1.mono (H' := H2) (B'' := H2) ra.fz_still g2.gg) (by rw [Rs.fz_dat]; exact lst_some ex)
    obtain ⟨l', vs', rfl, hl', rl'⟩ := RsR.lst k2.sim q2 (by rw [Rs.fz_dat]; exact lst_some ey)
    exact ⟨l, l', vs, vs', rfl, rfl, hl, hl', by rw [← rl.length, ← rl'.length]; exact hc, fun p hp => k2.newL (rl.append rl') hp⟩
  · rw [if_neg hc] at e; cases e
def repOk (k : Nat) (n : Int) : Bool := okB (-(2 ^ 63) ≤ n ∧ n < 2 ^ 63 ∧ k * n.toNat ≤ sizeLine)
def fRep (fa fb : EF) : EF := fun δ => (dt fa δ).bind fun a => (dt fb δ).bind fun b => a.lst?.bind fun xs => b.int?.bind fun n => if repOk xs.length n then some (.ow (List.replicate n.toNat xs).flatten) else none
def ixD : Dm → Int → Option Dm
  | .lst ds, i => atI ds i
  | .tup ds, i => atI ds i
  | .str z, i => if z.length ≤ sizeLine then (atI z.cps.toList i).map fun c => .str ⟨#[c]⟩ else none
  | _, _ => none
def fIx (fa fb : EF) : EF := fun δ => (dt fa δ).bind fun a => (dt fb δ).bind fun b => b.int?.bind fun i => (ixD a i).map .sh
theorem reps_at {K : PySem.W.Frag} {G : Hp} {ds : List Dm} {xs : List V} {i : Int} {d : Dm} (h : Reps K G ds xs) (e : atI ds i = some d) : ∃ v, atI xs i = some v ∧ Rep K G d v := by
  unfold atI at e ⊢
  rw [← h.length]
  cases q : ixN ds.length i with
  | none => rw [q] at e; cases e
  | some j =>
    rw [q] at e
    exact h.get e
theorem pd_ix {a b : Expr} {pos : Pos} {fa fb : EF} (ha : PD X a fa) (hb : PD X b fb) (hs : PlainIx b := by intro _ _; rfl) : PD X (.Subscript a b pos) (fIx fa fb) := PE.imp (pe_ix ix_seq ha.fz hb.fz hs) fun σ H Q h => by
  obtain ⟨B, G0, G, δ, r0, S, e, k⟩ := h
  obtain ⟨a, ea, e⟩ := Option.bind_eq_some_iff.mp e
  obtain ⟨b, eb, e⟩ := Option.bind_eq_some_iff.mp e
  obtain ⟨ra, era, rfl⟩ := dt_some ea
  obtain ⟨rb, erb, rfl⟩ := dt_some eb
  obtain ⟨i, ei, e⟩ := Option.bind_eq_some_iff.mp e
  obtain ⟨d, ed, e⟩ := Option.map_eq_some_iff.mp e
  subst e
  refine run1 ⟨S, k⟩ era fun x G1 H1 k1 g1 q1 => run1 k1 erb fun y G2 H2 k2 g2 q2 => ?_
  have r2 := RsR.rep k2.sim q2
  rw [Rs.fz_dat, int_some ei] at r2
  unfold Rep at r2
  have q1' := q1.mono (H' := H2) (B'' := H2) ra.fz_still g2.gg
  cases hd : ra.dat with
  | non => rw [hd] at ed; cases ed
  | bl b => rw [hd] at ed; cases ed
  | int j => rw [hd] at ed; cases ed
  | str z =>
    rw [hd] at ed
    have r1 := RsR.rep k2.sim q1'
    rw [Rs.fz_dat, hd] at r1
    unfold Rep at r1
    have ed' : (if z.length ≤ sizeLine then (atI z.cps.toList i).map fun c => Dm.str ⟨#[c]⟩ else none) = some d := ed
    by_cases hz : z.length ≤ sizeLine
    · rw [if_pos hz] at ed'
      obtain ⟨c, ec, ed'⟩ := Option.map_eq_some_iff.mp ed'
      subst ed'
      exact .inr (.inr ⟨z, i, c, r1, r2, hz, ec, k2.now (rep_scal rfl)⟩)
    · rw [if_neg hz] at ed'; cases ed'
  | lst ds =>
    rw [hd] at ed
    obtain ⟨l, vs, rfl, hl, rl⟩ := RsR.lst k2.sim q1' (by rw [Rs.fz_dat]; exact hd)
    obtain ⟨v, ev, rv⟩ := reps_at rl ed
    exact .inl ⟨l, vs, i, v, rfl, r2, hl, ev, k2.now rv⟩
  | tup ds =>
    rw [hd] at ed
    obtain ⟨l, vs, rfl, hl, rl⟩ := RsR.tup k2.sim q1' (by cases ra <;> rfl) (by rw [Rs.fz_dat]; exact hd)
    obtain ⟨v, ev, rv⟩ := reps_at rl ed
    exact .inr (.inl ⟨l, vs, i, v, rfl, r2, hl, ev, k2.now rv⟩)
  | dct ks ds => rw [hd] at ed; cases ed
def cutD (xs : List Dm) (lo hi : Option Int) : List Dm := (xs.drop (HT.sIx xs.length 0 lo)).take (HT.sIx xs.length xs.length hi - HT.sIx xs.length 0 lo)
theorem reps_cut {K : PySem.W.Frag} {G : Hp} {ds : List Dm} {xs : List V} (h : Reps K G ds xs) (lo hi : Option Int) : Reps K G (cutD ds lo hi) (cutV xs lo hi) := by
  unfold cutD cutV
  rw [h.length]
  exact (h.drop _).take _
abbrev OF := List Sl → Option (Option Int)
def pNo : OF := fun _ => some none
def pSome (f : EF) : OF := fun δ => (dt f δ).bind fun a => a.int?.map some
def tOD (K : PySem.W.Frag) (f : OF) : TO := fun σ H Q => ∃ B G0 G δ o, Sim K B G0 G δ σ H ∧ f δ = some o ∧ ∀ G' H', Sim K B G0 G' δ σ H' → Gr G H G' H' → Q o H'
def POD (X : Cx) (e : Option Expr) (f : OF) : Prop := PO X e (tOD X.K f)
theorem PO.imp {e : Option Expr} {t t' : TO} (h : PO X e t) (i : ∀ σ H Q, t' σ H Q → t σ H Q) : PO X e t' := fun pins s σ H Q I q => h pins s σ H Q I (i σ H Q q)
theorem po_no : POD X none pNo := PO.imp po_none fun σ H Q h => by
  obtain ⟨B, G0, G, δ, o, S, e, k⟩ := h
  cases e
  exact k G H S Gr.refl
theorem po_at {e : Expr} {f : EF} (h : PD X e f) : POD X (some e) (pSome f) := PO.imp (po_some h.fz) fun σ H Q h => by
  obtain ⟨B, G0, G, δ, o, S, e, k⟩ := h
  obtain ⟨a, ea, e⟩ := Option.bind_eq_some_iff.mp e
  obtain ⟨ra, era, rfl⟩ := dt_some ea
  obtain ⟨i, ei, e⟩ := Option.map_eq_some_iff.mp e
  subst e
  refine ⟨B, G0, G, δ, ra.fz, S, fz_some era, fun x G1 H1 S1 g1 q1 => ?_⟩
  have r1 := RsR.rep S1 q1
  rw [Rs.fz_dat, int_some ei] at r1
  unfold Rep at r1
  exact ⟨_, r1, k G1 H1 S1 g1⟩
def slD (d : Dm) (l h : Option Int) : Option Rs := match d with
  | .lst ds => some (.ow (cutD ds l h))
  | .tup ds => if HT.sIx ds.length 0 l = 0 ∧ HT.sIx ds.length ds.length h = ds.length then none else some (.sh (.tup (cutD ds l h)))
  | _ => none
def fSl (fa : EF) (lo hi : OF) : EF := fun δ => (dt fa δ).bind fun a => (lo δ).bind fun l => (hi δ).bind fun h => slD a l h
theorem pd_sl {a : Expr} {pos p2 : Pos} {lo hi : Option Expr} {fa : EF} {fl fh : OF} (ha : PD X a fa) (hl : POD X lo fl) (hh : POD X hi fh) : PD X (.Subscript a (.Slice lo hi none p2) pos) (fSl fa fl fh) := PE.imp (pe_slice (sl_list.or sl_tup) ha.fz hl hh) fun σ H Q h => by
  obtain ⟨B, G0, G, δ, r0, S, e, k⟩ := h
  obtain ⟨a, ea, e⟩ := Option.bind_eq_some_iff.mp e
  obtain ⟨l, el, e⟩ := Option.bind_eq_some_iff.mp e
  obtain ⟨u, eu, e⟩ := Option.bind_eq_some_iff.mp e
  obtain ⟨ra, era, rfl⟩ := dt_some ea
  refine run1 ⟨S, k⟩ era fun x G1 H1 k1 g1 q1 => ⟨B, G0, G1, δ, l, k1.sim, el, fun G2 H2 S2 g2 => ⟨B, G0, G2, δ, u, S2, eu, fun G3 H3 S3 g3 => ?_⟩⟩
  have k3 := (k1.step S2 g2).step S3 g3
  have q3 := (q1.mono (H' := H2) (B'' := H2) ra.fz_still g2.gg).mono (H' := H3) (B'' := H3) ra.fz_still g3.gg
  cases hd : ra.dat with
  | non => rw [hd] at e; cases e
  | bl b => rw [hd] at e; cases e
  | int j => rw [hd] at e; cases e
  | str z => rw [hd] at e; cases e
  | lst ds =>
    rw [hd] at e
    cases e
    obtain ⟨a, vs, rfl, hl, rl⟩ := RsR.lst k3.sim q3 (by rw [Rs.fz_dat]; exact hd)
    exact .inl ⟨a, vs, rfl, hl, fun p hp => k3.newL (reps_cut rl l u) hp⟩
  | tup ds =>
    rw [hd] at e
    have e' : (if HT.sIx ds.length 0 l = 0 ∧ HT.sIx ds.length ds.length u = ds.length then none else some (Rs.sh (.tup (cutD ds l u)))) = some r0 := e
    obtain ⟨a, vs, rfl, hl, rl⟩ := RsR.tup k3.sim q3 (by cases ra <;> rfl) (by rw [Rs.fz_dat]; exact hd)
    by_cases hc : HT.sIx ds.length 0 l = 0 ∧ HT.sIx ds.length ds.length u = ds.length
    · rw [if_pos hc] at e'; cases e'
    · rw [if_neg hc] at e'; cases e'
      exact .inr ⟨a, vs, rfl, hl, by rw [← rl.length]; exact hc, fun p hp => k3.newT (reps_cut rl l u) hp⟩
  | dct ks ds => rw [hd] at e; cases e
end
end
end BF
set_option Elab.async false
set_option linter.all false
set_option maxRecDepth 100000
set_option maxHeartbeats 4000000
namespace BF
open PySem PySem.Spec L2
noncomputable section
variable {X : Cx}
abbrev BF' := List Sl → Option Bool
def tTD (K : PySem.W.Frag) (f : BF') : TT := fun σ H Q => ∃ B G0 G δ b, Sim K B G0 G δ σ H ∧ f δ = some b ∧ ∀ G' H', Sim K B G0 G' δ σ H' → Gr G H G' H' → Q b H'
def PTD (X : Cx) (e : Expr) (f : BF') : Prop := PT X e (tTD X.K f)
def PWD (X : Cx) (e : Expr) (f : BF') : Prop := PW X e (tTD X.K f)
theorem PW.imp {e : Expr} {t t' : TT} (h : PW X e t) (i : ∀ σ H Q, t' σ H Q → t σ H Q) : PW X e t' := fun wh pins s σ H Q I q => h wh pins s σ H Q I (i σ H Q q)
def Dm.bl? : Dm → Option Bool
  | .bl b => some b
  | _ => none
theorem bl_some {d : Dm} {b : Bool} (e : d.bl? = some b) : d = .bl b := by
  cases d <;> first | (cases e; done) | (have e' := Option.some.inj e; rw [e'])
def bB (f : EF) : BF' := fun δ => (dt f δ).bind Dm.bl?
theorem tD_bB {K : PySem.W.Frag} {f : EF} {σ : L2.St} {H : Hp} {Q : Bool → Hp → Prop} (h : tTD K (bB f) σ H Q) : tD K (fz f) σ H fun x H' => ∃ k, x = .bl k ∧ Q k H' := by
  obtain ⟨B, G0, G, δ, b, S, e, k⟩ := h
  obtain ⟨a, ea, e⟩ := Option.bind_eq_some_iff.mp e
  obtain ⟨ra, era, rfl⟩ := dt_some ea
  refine ⟨B, G0, G, δ, ra.fz, S, fz_some era, fun x G1 H1 S1 g1 q1 => ?_⟩
  have r1 := RsR.rep S1 q1
  rw [Rs.fz_dat, bl_some e] at r1
  unfold Rep at r1
  exact ⟨b, r1, k G1 H1 S1 g1⟩
theorem pt_of {e : Expr} {f : EF} (h : PD X e f) (he : ∀ whole, isTrue e X.env whole = (do let v ← whole; standAt e.pos; holding [v] (truthy v)) := by intro _; rfl) : PTD X e (bB f) :=
  PT.imp (pt_val h.fz he) fun _ _ _ q => tD_bB q
theorem pt_c {op : CmpOp} {a b : Expr} {pos : Pos} {r : R2} {o : Dm → Dm → Option Dm} {fa fb : EF} (ho : OpR X (compareOp op) r) (h2 : Op2 X.K r o) (ha : PD X a fa) (hb : PD X b fb) (hm : behindInMarks op b = false) : PTD X (.Compare a [op] [b] pos) (bB (op2 o fa fb)) :=
  PT.imp (pt_cmpR ho ha.fz hb.fz hm) fun σ H Q q => op2_run h2 (by
    have q' := tD_bB q
    obtain ⟨B, G0, G, δ, r, S, e, k⟩ := q'
    obtain ⟨r1, e1, e2⟩ := Option.map_eq_some_iff.mp (show (op2 o fa fb δ).map Rs.fz = some r from e)
    refine ⟨B, G0, G, δ, r1, S, e1, fun v G' H' S' g q => ?_⟩
    have hr : r1.fz = r1 := by
      obtain ⟨a, ea, e1⟩ := Option.bind_eq_some_iff.mp e1
      obtain ⟨b, eb, e1⟩ := Option.bind_eq_some_iff.mp e1
      obtain ⟨d, ed, e1⟩ := Option.map_eq_some_iff.mp e1
      rw [← e1]; rfl
    exact k v G' H' S' g (by rw [← e2, hr]; exact q))
section
variable {a b : Expr} {pos : Pos} {fa fb : EF}
theorem pt_lt (ha : PD X a fa) (hb : PD X b fb) : PTD X (.Compare a [.Lt] [b] pos) (bB (op2 oLt fa fb)) := pt_c op_lt op2_B0 ha hb (nomark _)
theorem pt_gt (ha : PD X a fa) (hb : PD X b fb) : PTD X (.Compare a [.Gt] [b] pos) (bB (op2 oGt fa fb)) := pt_c op_gt op2_B0 ha hb (nomark _)
theorem pt_ge (ha : PD X a fa) (hb : PD X b fb) : PTD X (.Compare a [.GtE] [b] pos) (bB (op2 oGe fa fb)) := pt_c op_ge op2_B0 ha hb (nomark _)
theorem pt_eq (hu : X.A.units + 64 < cLine) (ha : PD X a fa) (hb : PD X b fb) : PTD X (.Compare a [.Eq] [b] pos) (bB (op2 (oEq false) fa fb)) := pt_c (op_eqD hu) (op2_eq false) ha hb (nomark _)
theorem pt_ne (hu : X.A.units + 64 < cLine) (ha : PD X a fa) (hb : PD X b fb) : PTD X (.Compare a [.NotEq] [b] pos) (bB (op2 (oEq true) fa fb)) := pt_c (op_neD hu) (op2_eq true) ha hb (nomark _)
end
def bAnd (f g : BF') : BF' := fun δ => (f δ).bind fun a => if a = true then g δ else some false
def bOr (f g : BF') : BF' := fun δ => (f δ).bind fun a => if a = true then some true else g δ
def bNot (f : BF') : BF' := fun δ => (f δ).map (!·)
theorem pw1_and {a : Expr} {pos : Pos} {f : BF'} (h : PTD X a f) : PWD X (.BoolOp .And [a] pos) f := pw_and1 h
theorem pw1_or {a : Expr} {pos : Pos} {f : BF'} (h : PTD X a f) : PWD X (.BoolOp .Or [a] pos) f := pw_or1 h
theorem pwd_and {a b : Expr} {rest : List Expr} {pos : Pos} {f g : BF'} (h : PTD X a f) (h' : PWD X (.BoolOp .And (b :: rest) pos) g) : PWD X (.BoolOp .And (a :: b :: rest) pos) (bAnd f g) := PW.imp (pw_and h h') fun σ H Q q => by
  obtain ⟨B, G0, G, δ, c, S, e, k⟩ := q
  obtain ⟨a, ea, e⟩ := Option.bind_eq_some_iff.mp e
  refine ⟨B, G0, G, δ, a, S, ea, fun G1 H1 S1 g1 => ?_⟩
  cases a with
  | true => rw [if_pos rfl] at e ⊢; exact ⟨B, G0, G1, δ, c, S1, e, fun G2 H2 S2 g2 => k G2 H2 S2 (g1.trans g2)⟩
  | false => rw [if_neg Bool.false_ne_true] at e ⊢; cases e; exact k G1 H1 S1 g1
theorem pwd_or {a b : Expr} {rest : List Expr} {pos : Pos} {f g : BF'} (h : PTD X a f) (h' : PWD X (.BoolOp .Or (b :: rest) pos) g) : PWD X (.BoolOp .Or (a :: b :: rest) pos) (bOr f g) := PW.imp (pw_or h h') fun σ H Q q => by
  obtain ⟨B, G0, G, δ, c, S, e, k⟩ := q
  obtain ⟨a, ea, e⟩ := Option.bind_eq_some_iff.mp e
  refine ⟨B, G0, G, δ, a, S, ea, fun G1 H1 S1 g1 => ?_⟩
  cases a with
  | false => rw [if_neg Bool.false_ne_true] at e ⊢; exact ⟨B, G0, G1, δ, c, S1, e, fun G2 H2 S2 g2 => k G2 H2 S2 (g1.trans g2)⟩
  | true => rw [if_pos rfl] at e ⊢; cases e; exact k G1 H1 S1 g1
theorem PWD.t {e : Expr} {f : BF'} (h : PWD X e f) : PTD X e f := PW.pt h
theorem ptd_not {a : Expr} {pos : Pos} {f : BF'} (h : PTD X a f) : PTD X (.UnaryOp .Not a pos) (bNot f) := PT.imp (pt_not h) fun σ H Q q => by
  obtain ⟨B, G0, G, δ, c, S, e, k⟩ := q
  obtain ⟨a, ea, e⟩ := Option.map_eq_some_iff.mp e
  subst e
  exact ⟨B, G0, G, δ, a, S, ea, k⟩
def vAnd (f g : EF) : EF := fun δ => (bB f δ).bind fun a => if a = true then g δ else some (.sh (.bl false))
def vOr (f g : EF) : EF := fun δ => (bB f δ).bind fun a => if a = true then some (.sh (.bl true)) else g δ
def vNot (f : EF) : EF := fun δ => (bB f δ).map fun a => .sh (.bl (!a))
theorem pd_one {op} {a : Expr} {pos : Pos} {f : EF} (h : PD X a f) : PD X (.BoolOp op [a] pos) f := pe_one h
theorem run_bB {K : PySem.W.Frag} {B G0 G : Hp} {δ : List Sl} {σ : L2.St} {H : Hp} {r : Rs} {Q R : VK} {f : EF} {b : Bool} (k : KD K B G0 G δ σ H r Q) (e : bB f δ = some b) (h : ∀ G1 H1, KD K B G0 G1 δ σ H1 r Q → R (.bl b) H1) : tD K (fz f) σ H R := by
  obtain ⟨a, ea, e⟩ := Option.bind_eq_some_iff.mp e
  obtain ⟨ra, era, rfl⟩ := dt_some ea
  refine run1 k era fun x G1 H1 k1 g1 q1 => ?_
  have r1 := RsR.rep k1.sim q1
  rw [Rs.fz_dat, bl_some e] at r1
  unfold Rep at r1
  subst r1
  exact h G1 H1 k1
theorem pd_and {a b : Expr} {rest : List Expr} {pos : Pos} {f g : EF} (h : PD X a f) (h' : PD X (.BoolOp .And (b :: rest) pos) g) : PD X (.BoolOp .And (a :: b :: rest) pos) (vAnd f g) := PE.imp (pe_and h.fz h') fun σ H Q q => by
  obtain ⟨B, G0, G, δ, r, S, e, k⟩ := q
  obtain ⟨a, ea, e⟩ := Option.bind_eq_some_iff.mp e
  refine run_bB ⟨S, k⟩ ea fun G1 H1 k1 => ⟨a, rfl, ?_⟩
  cases a with
  | true => rw [if_pos rfl] at e ⊢; exact k1.tD e
  | false => rw [if_neg Bool.false_ne_true] at e ⊢; cases e; exact k1.now (rep_scal rfl)
theorem pd_or {a b : Expr} {rest : List Expr} {pos : Pos} {f g : EF} (h : PD X a f) (h' : PD X (.BoolOp .Or (b :: rest) pos) g) : PD X (.BoolOp .Or (a :: b :: rest) pos) (vOr f g) := PE.imp (pe_or h.fz h') fun σ H Q q => by
  obtain ⟨B, G0, G, δ, r, S, e, k⟩ := q
  obtain ⟨a, ea, e⟩ := Option.bind_eq_some_iff.mp e
  refine run_bB ⟨S, k⟩ ea fun G1 H1 k1 => ⟨a, rfl, ?_⟩
  cases a with
  | false => rw [if_neg Bool.false_ne_true] at e ⊢; exact k1.tD e
  | true => rw [if_pos rfl] at e ⊢; cases e; exact k1.now (rep_scal rfl)
theorem pd_not {a : Expr} {pos : Pos} {f : EF} (h : PD X a f) : PD X (.UnaryOp .Not a pos) (vNot f) := PE.imp (pe_not h.fz) fun σ H Q q => by
  obtain ⟨B, G0, G, δ, r, S, e, k⟩ := q
  obtain ⟨a, ea, e⟩ := Option.map_eq_some_iff.mp e
  subst e
  exact run_bB ⟨S, k⟩ ea fun G1 H1 k1 => ⟨a, rfl, k1.now (rep_scal rfl)⟩
def evs : List EF → List Sl → Option (List Rs)
  | [], _ => some []
  | f :: r, δ => (f δ).bind fun a => (evs r δ).bind fun as => some (a.fz :: as)
def RsRs (K : PySem.W.Frag) (G H : Hp) (δ : List Sl) (σ : L2.St) : List Rs → List V → Prop
  | [], vs => vs = []
  | r :: rs, vs => ∃ v t, vs = v :: t ∧ r.still = true ∧ RsR K H G H δ σ r v ∧ RsRs K G H δ σ rs t
theorem RsRs.mono {K : PySem.W.Frag} {G G' H H' : Hp} {δ : List Sl} {σ : L2.St} (g : Same G G') : ∀ {rs : List Rs} {vs : List V}, RsRs K G H δ σ rs vs → RsRs K G' H' δ σ rs vs
  | [], _, h => h
  | r :: rs, _, h => by
    obtain ⟨v, t, e, s, q, h⟩ := h
    exact ⟨v, t, e, s, q.mono s g, RsRs.mono g h⟩
def tAD (K : PySem.W.Frag) (fs : List EF) : TA := fun σ H Q => ∃ B G0 G δ rs, Sim K B G0 G δ σ H ∧ evs fs δ = some rs ∧ ∀ vs G' H', Sim K B G0 G' δ σ H' → Gr G H G' H' → RsRs K G' H' δ σ rs vs → Q vs H'
def PAD (X : Cx) (es : List Expr) (fs : List EF) : Prop := PA X es (tAD X.K fs)
theorem PA.imp {es : List Expr} {t t' : TA} (h : PA X es t) (i : ∀ σ H Q, t' σ H Q → t σ H Q) : PA X es t' := fun pos pins s σ H Q I q => h pos pins s σ H Q I (i σ H Q q)
theorem pad_nil : PAD X [] [] := PA.imp pa_nil fun σ H Q h => by
  obtain ⟨B, G0, G, δ, rs, S, e, k⟩ := h
  cases e
  exact k [] G H S Gr.refl rfl
theorem pad_cons {e : Expr} {es : List Expr} {f : EF} {fs : List EF} (h : PD X e f) (hr : PAD X es fs) (hs : starEach (e :: es) X.env = (false, eval e X.env) :: starEach es X.env := by rfl) : PAD X (e :: es) (f :: fs) := PA.imp (pa_cons h.fz hr hs) fun σ H Q h => by
  obtain ⟨B, G0, G, δ, rs, S, e, k⟩ := h
  obtain ⟨ra, era, e⟩ := Option.bind_eq_some_iff.mp e
  obtain ⟨rs', ers, e⟩ := Option.bind_eq_some_iff.mp e
  cases e
  refine ⟨B, G0, G, δ, ra.fz, S, fz_some era, fun x G1 H1 S1 g1 q1 => ⟨B, G0, G1, δ, rs', S1, ers, fun vs G2 H2 S2 g2 q2 => ?_⟩⟩
  exact k (x :: vs) G2 H2 S2 (g1.trans g2) ⟨x, vs, rfl, ra.fz_still, q1.mono ra.fz_still g2.gg, q2⟩
def Rs.isSh : Rs → Bool
  | .sh _ => true
  | _ => false
theorem RsRs.reps {K : PySem.W.Frag} {B G0 G H : Hp} {δ : List Sl} {σ : L2.St} (S : Sim K B G0 G δ σ H) : ∀ {rs : List Rs} {vs : List V}, RsRs K G H δ σ rs vs → rs.all Rs.isSh = true → Reps K G (rs.map Rs.dat) vs
  | [], vs, h, _ => by unfold Reps; exact h
  | r :: rs, vs, h, a => by
    obtain ⟨v, t, e, s, q, h⟩ := h
    rw [List.all_cons, Bool.and_eq_true] at a
    subst e
    refine Reps.cons ?_ (RsRs.reps S h a.2)
    cases r with
    | sh d => exact q
    | ow ds => cases s
    | al i ds => exact absurd (show false = true from a.1) Bool.false_ne_true
    | ft pre es => exact absurd (show false = true from a.1) Bool.false_ne_true
    | od ks ds => exact absurd (show false = true from a.1) Bool.false_ne_true
theorem RsRs.repsH {K : PySem.W.Frag} {B G0 G H : Hp} {δ : List Sl} {σ : L2.St} (S : Sim K B G0 G δ σ H) : ∀ {rs : List Rs} {vs : List V}, RsRs K G H δ σ rs vs → Reps K H (rs.map Rs.dat) vs
  | [], vs, h => by unfold Reps; exact h
  | r :: rs, vs, h => by
    obtain ⟨v, t, e, s, q, h⟩ := h
    subst e
    exact Reps.cons (RsR.rep S q) (RsRs.repsH S h)
def fTup (fs : List EF) : EF := fun δ => (evs fs δ).bind fun rs => if rs.all Rs.isSh && decide (rs.length ≤ sizeLine) then some (.sh (.tup (rs.map Rs.dat))) else none
def fLst (fs : List EF) : EF := fun δ => (evs fs δ).bind fun rs => if rs.all Rs.isSh && decide (rs.length ≤ sizeLine) then some (.ow (rs.map Rs.dat)) else none
theorem pd_tup {es : List Expr} {x1} {pos : Pos} {fs : List EF} (h : PAD X es fs) : PD X (.Tuple es x1 pos) (fTup fs) := PE.imp (pe_tup h) fun σ H Q h => by
  obtain ⟨B, G0, G, δ, r, S, e, k⟩ := h
  obtain ⟨rs, ers, e⟩ := Option.bind_eq_some_iff.mp e
  by_cases hc : (rs.all Rs.isSh && decide (rs.length ≤ sizeLine)) = true
  · rw [if_pos hc] at e; cases e
    rw [Bool.and_eq_true] at hc
    refine ⟨B, G0, G, δ, rs, S, ers, fun vs G1 H1 S1 g1 q1 => ?_⟩
    have rp := RsRs.reps S1 q1 hc.1
    refine ⟨by rw [← rp.length, List.length_map]; exact of_decide_eq_true hc.2, fun p hp => (KD.step ⟨S, k⟩ S1 g1).newT rp hp⟩
  · rw [if_neg hc] at e; cases e
theorem pd_lst {es : List Expr} {pos : Pos} {fs : List EF} (h : PAD X es fs) : PD X (.List es pos) (fLst fs) := PE.imp (pe_lst h) fun σ H Q h => by
  obtain ⟨B, G0, G, δ, r, S, e, k⟩ := h
  obtain ⟨rs, ers, e⟩ := Option.bind_eq_some_iff.mp e
  by_cases hc : (rs.all Rs.isSh && decide (rs.length ≤ sizeLine)) = true
  · rw [if_pos hc] at e; cases e
    rw [Bool.and_eq_true] at hc
    refine ⟨B, G0, G, δ, rs, S, ers, fun vs G1 H1 S1 g1 q1 => ?_⟩
    have rp := RsRs.reps S1 q1 hc.1
    refine ⟨by rw [← rp.length, List.length_map]; exact of_decide_eq_true hc.2, fun p hp => (KD.step ⟨S, k⟩ S1 g1).newL rp hp⟩
  · rw [if_neg hc] at e; cases e
def Ret (K : PySem.W.Frag) (H G' H' : Hp) : Rs → V → Prop
  | .sh d, v => Rep K G' d v
  | .ow ds, v => ∃ p xs, v = .ref p ∧ H' p = some (.lst xs) ∧ G' p = none ∧ H p = none ∧ Reps K G' ds xs
  | .ft pre es, v => ∃ a p vs xs, v = .ref a ∧ H' a = some (.tup (vs ++ [.ref p])) ∧ H' p = some (.lst xs) ∧ G' a = none ∧ G' p = none ∧ H a = none ∧ H p = none ∧ Reps K G' pre vs ∧ Reps K G' es xs
  | .od ks ds, v => ∃ p kvs, v = .ref p ∧ H' p = some (DX p kvs) ∧ G' p = none ∧ H p = none ∧ kvs.2.map (·.1) = ks.map Sum.inl ∧ Reps K G' ds (kvs.2.map (·.2))
  | .al _ _, _ => False
abbrev FD := List Dm → Option Rs
def spD (K : PySem.W.Frag) (F : FD) : Sp := fun vs H Q _ => ∃ G ds r, Same G H ∧ Reps K G ds vs ∧ F ds = some r ∧
  ∀ v G' H', Same H H' → Same G G' → Same G' H' → (∀ b, H b ≠ none → G' b = G b) → Ret K H G' H' r v → Q v H'
def Rs.scal : Rs → Bool
  | .sh d => d.scal
  | _ => false
def fCall (F : FD) (fs : List EF) : EF := fun δ => (evs fs δ).bind fun rs => (F (rs.map Rs.dat)).bind fun r => if rs.all Rs.isSh || r.scal then some r else none
theorem call_run {K : PySem.W.Frag} {F : FD} {fs : List EF} {σ : L2.St} {H : Hp} {Q : VK} {E : XK} (h : tD K (fCall F fs) σ H Q) : tAD K fs σ H fun vs H1 => spD K F vs H1 Q E := by
  obtain ⟨B, G0, G, δ, r, S, e, k⟩ := h
  obtain ⟨rs, ers, e⟩ := Option.bind_eq_some_iff.mp e
  obtain ⟨r1, e1, e⟩ := Option.bind_eq_some_iff.mp e
  refine ⟨B, G0, G, δ, rs, S, ers, fun vs G1 H1 S1 g1 q1 => ?_⟩
  have k1 := KD.step ⟨S, k⟩ S1 g1
  by_cases hsh : rs.all Rs.isSh = true
  · rw [hsh, Bool.true_or, if_pos rfl] at e
    cases e
    refine ⟨G1, _, r, S1.gh, RsRs.reps S1 q1 hsh, e1, fun v G' H' hh gg gh nw ret => ?_⟩
    have S' : Sim K B G0 G' δ σ H' := S1.ext ⟨gg, hh, nw⟩ gh
    refine k1.out v G' H' S' ⟨gg, hh, nw⟩ ?_
    cases r with
    | sh d => exact ret
    | al i ds => exact ret.elim
    | ow ds =>
      obtain ⟨p, xs, e1, e2, e3, e4, r⟩ := ret
      exact ⟨p, xs, e1, e2, e3, e4, r⟩
    | ft pre es => exact ret
    | od ks ds => exact ret
  · by_cases hsc : r1.scal = true
    · rw [hsc, Bool.or_true, if_pos rfl] at e
      cases e
      refine ⟨H1, _, r, Same.refl H1, RsRs.repsH S1 q1, e1, fun v G' H' hh gg gh nw ret => ?_⟩
      cases r with
      | sh d =>
        have hv : Rep K G' d v := ret
        have hsc' : d.scal = true := hsc
        have hv2 : Rep K G1 d v := by
          cases d with
          | lst ds => exact absurd (show false = true from hsc') Bool.false_ne_true
          | tup ds => exact absurd (show false = true from hsc') Bool.false_ne_true
          | dct ks ds => exact absurd (show false = true from hsc') Bool.false_ne_true
          | _ => unfold Rep at hv ⊢; exact hv
        exact k1.out v G1 H' (S1.grow hh) ⟨Same.refl G1, hh, fun _ _ => rfl⟩ hv2
      | al i ds => exact ret.elim
      | ow ds => exact absurd (show false = true from hsc) Bool.false_ne_true
      | ft pre es => exact absurd (show false = true from hsc) Bool.false_ne_true
      | od ks ds => exact absurd (show false = true from hsc) Bool.false_ne_true
    · have : (rs.all Rs.isSh || r1.scal) = false := by
        rw [Bool.or_eq_false_iff]; exact ⟨by simpa using hsh, by simpa using hsc⟩
      rw [this, if_neg Bool.false_ne_true] at e; cases e
theorem pd_call {x : Str} {f : Addr} {fd : FuncData} {ps : List Str} {k : Nat} {F : FD} {p pos : Pos} {e : Expr} {es : List Expr} {fs : List EF} (G : FnOk X.prog X.w X.K X.mg X.base CX0 k f fd ps (spD X.K F)) (hr : Room k X.A) (hg : Gl X x) (hm : X.mg x = some (.ref f)) (hk : PySem.W.keepIn X.K (.ref f) = true)
    (hb : Binds X.K fd ps []) (ha : PAD X (e :: es) fs) (hdb : (x == ("__debug__" : Str)) = false := by decide +kernel) (he : starEach (e :: es) X.env = (false, eval e X.env) :: starEach es X.env := by rfl) (hpl : (backTo pos (starEach es X.env)).any (·.1) = false := by rfl) : PD X (.Call (.Name x p) (e :: es) [] pos) (fCall F fs) :=
  PE.imp (pe_call G hr hg hm hk hb .nil pass0 ha hdb he hpl) fun σ H Q h => by
    have := call_run (E := E0) h
    show tAD X.K fs σ H fun vs H1 => spD X.K F (vs ++ []) H1 Q E0
    simpa using this
end
end BF
set_option Elab.async false
set_option linter.all false
set_option maxRecDepth 100000
set_option maxHeartbeats 4000000
namespace BF
open PySem PySem.Spec L2
noncomputable section
variable {X : Cx}
def fB (o : List Dm → Option Dm) (fs : List EF) : EF := fun δ => (evs fs δ).bind fun rs => (o (rs.map Rs.dat)).map .sh
def CallS (K : PySem.W.Frag) (r : List V → Hp → VK → Prop) (o : List Dm → Option Dm) : Prop := ∀ vs H ds d Q, Reps K H ds vs → o ds = some d → d.scal = true ∧ (Q (vOf d) H → r vs H Q)
theorem fB_run {K : PySem.W.Frag} {r : List V → Hp → VK → Prop} {o : List Dm → Option Dm} {fs : List EF} (hs : CallS K r o) {σ : L2.St} {H : Hp} {Q : VK} (h : tD K (fB o fs) σ H Q) : tAD K fs σ H fun vs H1 => r vs H1 Q := by
  obtain ⟨B, G0, G, δ, r0, S, e, k⟩ := h
  obtain ⟨rs, ers, e⟩ := Option.bind_eq_some_iff.mp e
  obtain ⟨d, ed, e⟩ := Option.map_eq_some_iff.mp e
  subst e
  refine ⟨B, G0, G, δ, rs, S, ers, fun vs G1 H1 S1 g1 q1 => ?_⟩
  obtain ⟨sc, go⟩ := hs vs H1 _ d Q (RsRs.repsH S1 q1) ed
  exact go ((KD.step ⟨S, k⟩ S1 g1).now (rep_scal sc))
section
variable {x : Str} {p pos : Pos} {e : Expr} {es : List Expr} {fs : List EF} {id T : String} {r : List V → Hp → VK → Prop} {o : List Dm → Option Dm}
theorem pd_bi (hc : CallR X (.builtin id) r) (hs : CallS X.K r o) (hg : Gl X x) (hm : X.mg x = none) (hv : bootBuiltins x = some (.builtin id)) (ha : PAD X (e :: es) fs) (hn : x ≠ "__name__" := by decide +kernel) (hdb : (x == ("__debug__" : Str)) = false := by decide +kernel)
    (he : starEach (e :: es) X.env = (false, eval e X.env) :: starEach es X.env := by rfl) (hpl : (backTo pos (starEach es X.env)).any (·.1) = false := by rfl) : PD X (.Call (.Name x p) (e :: es) [] pos) (fB o fs) :=
  PE.imp (pe_callB hc hg hm hv ha hn hdb he hpl) fun _ _ _ h => fB_run hs h
end
theorem reps1 {K : PySem.W.Frag} {H : Hp} {d : Dm} {vs : List V} (h : Reps K H [d] vs) : ∃ v, vs = [v] ∧ Rep K H d v := by
  unfold Reps at h
  obtain ⟨v, r, e, q, t⟩ := h
  unfold Reps at t
  subst t
  exact ⟨v, e, q⟩
theorem reps2 {K : PySem.W.Frag} {H : Hp} {d c : Dm} {vs : List V} (h : Reps K H [d, c] vs) : ∃ v u, vs = [v, u] ∧ Rep K H d v ∧ Rep K H c u := by
  unfold Reps at h
  obtain ⟨v, r, e, q, t⟩ := h
  obtain ⟨u, e', q'⟩ := reps1 t
  subst e'
  exact ⟨v, u, e, q, q'⟩
def oLen : List Dm → Option Dm
  | [.lst ds] => some (.int ds.length)
  | [.tup ds] => some (.int ds.length)
  | [.str z] => if z.length ≤ sizeLine then some (.int z.length) else none
  | _ => none
theorem cs_len {K : PySem.W.Frag} : CallS K (fun xs H Q => ∃ x n, xs = [x] ∧ LenV K x H n ∧ Q (.int n) H) oLen := by
  intro vs H ds d Q h e
  unfold oLen at e
  split at e
  · cases e
    obtain ⟨v, rfl, q⟩ := reps1 h
    unfold Rep at q
    obtain ⟨a, xs, rfl, hq, rr⟩ := q
    exact ⟨rfl, fun k => ⟨_, _, rfl, .inl ⟨xs, hq, rr.length⟩, k⟩⟩
  · cases e
    obtain ⟨v, rfl, q⟩ := reps1 h
    unfold Rep at q
    obtain ⟨a, xs, rfl, hq, rr⟩ := q
    exact ⟨rfl, fun k => ⟨_, _, rfl, .inr ⟨xs, hq, rr.length⟩, k⟩⟩
  · split at e
    · rename_i hz
      cases e
      obtain ⟨v, rfl, q⟩ := reps1 h
      unfold Rep at q
      subst q
      exact ⟨rfl, fun k => ⟨_, _, rfl, ⟨hz, rfl⟩, k⟩⟩
    · cases e
  · cases e
def oMin : List Dm → Option Dm
  | [.int i, .int j] => some (.int (if j < i then j else i))
  | _ => none
theorem cs_min {K : PySem.W.Frag} : CallS K (fun xs H Q => ∃ i j, xs = [.int i, .int j] ∧ Q (.int (if j < i then j else i)) H) oMin := by
  intro vs H ds d Q h e
  unfold oMin at e
  split at e
  · cases e
    obtain ⟨v, u, rfl, q, q'⟩ := reps2 h
    unfold Rep at q q'
    subst q q'
    exact ⟨rfl, fun k => ⟨_, _, rfl, k⟩⟩
  · cases e
def ints? : List Dm → Option (List Int)
  | [] => some []
  | d :: ds => d.int?.bind fun i => (ints? ds).map fun r => i :: r
theorem ints_some : ∀ {ds : List Dm} {ns : List Int}, ints? ds = some ns → ds = ns.map .int
  | [], ns, e => by cases e; rfl
  | d :: ds, ns, e => by
    obtain ⟨i, ei, e⟩ := Option.bind_eq_some_iff.mp (show (d.int?.bind fun i => (ints? ds).map fun r => i :: r) = some ns from e)
    obtain ⟨r, er, e⟩ := Option.map_eq_some_iff.mp e
    subst e
    rw [int_some ei, ints_some er]; rfl
theorem reps_ints {K : PySem.W.Frag} {H : Hp} : ∀ {ns : List Int} {xs : List V}, Reps K H (ns.map .int) xs → xs = ns.map .int
  | [], xs, h => by unfold List.map Reps at h; exact h
  | n :: ns, xs, h => by
    unfold List.map Reps at h
    obtain ⟨v, r, e, q, t⟩ := h
    unfold Rep at q
    rw [e, q, reps_ints t]; rfl
def oSum : List Dm → Option Dm
  | [.lst ds] => (ints? ds).map fun ns => .int ns.sum
  | _ => none
def fIsi (f : EF) (c : String) : EF := fun δ => (dt f δ).map fun d => .sh (.bl (isTy d c))
theorem pd_isi {e : Expr} {f : EF} {T : Str} {c : String} {p p2 pos : Pos} (h : PD X e f) (hc : c = "int" ∨ c = "bool" ∨ c = "str" ∨ c = "list" ∨ c = "tuple") (hg : Gl X "isinstance") (hm : X.mg "isinstance" = none) (hv : bootBuiltins "isinstance" = some (.builtin "isinstance"))
    (hgT : Gl X T) (hmT : X.mg T = none) (hvT : bootBuiltins T = some (.type c)) (hnT : T ≠ "__name__" := by decide +kernel) (hdT : (T == ("__debug__" : Str)) = false := by decide +kernel) (he : starEach [e, .Name T p2] X.env = (false, eval e X.env) :: starEach [.Name T p2] X.env := by rfl) : PD X (.Call (.Name "isinstance" p) [e, .Name T p2] [] pos) (fIsi f c) := by
  refine PE.imp (pe_callB call_isi hg hm hv (pa_cons h.fz (pa_cons (pe_bltn (v := .ty c) hgT hmT hvT rfl hnT hdT) pa_nil) he) (by decide +kernel) (by decide +kernel) he) fun σ H Q h => ?_
  obtain ⟨B, G0, G, δ, r0, S, e, k⟩ := h
  obtain ⟨d, ed, e⟩ := Option.map_eq_some_iff.mp e
  subst e
  obtain ⟨ra, era, rfl⟩ := dt_some ed
  refine run1 ⟨S, k⟩ era fun x G1 H1 k1 g1 q1 => ?_
  have r1 := RsR.rep k1.sim q1
  rw [Rs.fz_dat] at r1
  exact ⟨x, _, c, rfl, r1, hc, k1.now (rep_scal rfl)⟩
def Dm.seq? : Dm → Option (List Dm)
  | .lst ds => some ds
  | .tup ds => some ds
  | _ => none
def fList (f : EF) : EF := fun δ => (dt f δ).bind fun d => d.seq?.map .ow
theorem RsRs.one {K : PySem.W.Frag} {G H : Hp} {δ : List Sl} {σ : L2.St} {r : Rs} {vs : List V} (h : RsRs K G H δ σ [r] vs) : ∃ v, vs = [v] ∧ RsR K H G H δ σ r v := by
  obtain ⟨v, t, e, _, q, h⟩ := h
  have h' : t = [] := h
  subst h'
  exact ⟨v, e, q⟩
theorem pd_list {e : Expr} {f : EF} {p pos : Pos} (h : PD X e f) (hg : Gl X "list") (hm : X.mg "list" = none) (hv : bootBuiltins "list" = some (.type "list")) (he : starEach [e] X.env = (false, eval e X.env) :: starEach [] X.env := by rfl) : PD X (.Call (.Name "list" p) [e] [] pos) (fList f) := by
  refine PE.imp (pe_callTy call_list_of hg hm hv (pad_cons h pad_nil he) (by decide +kernel) (by decide +kernel) he) fun σ H Q h => ?_
  obtain ⟨B, G0, G, δ, r0, S, e, k⟩ := h
  obtain ⟨d, ed, e⟩ := Option.bind_eq_some_iff.mp e
  obtain ⟨ds, eds, e⟩ := Option.map_eq_some_iff.mp e
  subst e
  obtain ⟨ra, era, rfl⟩ := dt_some ed
  refine ⟨B, G0, G, δ, [ra.fz], S, by unfold evs evs; rw [era]; rfl, fun vs G1 H1 S1 g1 q1 => ?_⟩
  obtain ⟨v, rfl, q⟩ := RsRs.one q1
  have k1 := KD.step ⟨S, k⟩ S1 g1
  cases hd : ra.dat with
  | lst es =>
    rw [hd] at eds; cases eds
    obtain ⟨a, xs, rfl, hq, rr⟩ := RsR.lst S1 q (by rw [Rs.fz_dat]; exact hd)
    exact ⟨a, xs, rfl, .inl hq, fun l hl => k1.newL rr hl⟩
  | tup es =>
    rw [hd] at eds; cases eds
    obtain ⟨a, xs, rfl, hq, rr⟩ := RsR.tup S1 q (by cases ra <;> rfl) (by rw [Rs.fz_dat]; exact hd)
    exact ⟨a, xs, rfl, .inr hq, fun l hl => k1.newL rr hl⟩
  | non => rw [hd] at eds; cases eds
  | bl b => rw [hd] at eds; cases eds
  | int i => rw [hd] at eds; cases eds
  | str z => rw [hd] at eds; cases eds
  | dct ks ds => rw [hd] at eds; cases eds
inductive Fl where
  | nx (δ : List Sl) | rt (r : Rs) | bk (δ : List Sl) | ct (δ : List Sl)
abbrev SF := List Sl → Option Fl
def EndOk (K : PySem.W.Frag) (B G0 G : Hp) (D : Ends) : Fl → Prop
  | .nx δ' => ∀ G' σ' H', Sim K B G0 G' δ' σ' H' → Same G G' → D.nx σ' H'
  | .bk δ' => ∀ G' σ' H', Sim K B G0 G' δ' σ' H' → Same G G' → D.bk σ' H'
  | .ct δ' => ∀ G' σ' H', Sim K B G0 G' δ' σ' H' → Same G G' → D.ct σ' H'
  | .rt r => ∀ δ' G' σ' H' v, Sim K B G0 G' δ' σ' H' → Same G G' → Ret K B G' H' r v → D.rt v H'
theorem EndOk.mono {K : PySem.W.Frag} {B G0 G G1 : Hp} {D : Ends} (g : Same G G1) : ∀ {fl : Fl}, EndOk K B G0 G D fl → EndOk K B G0 G1 D fl
  | .nx _, h => fun G' σ' H' S g' => h G' σ' H' S (g.trans g')
  | .bk _, h => fun G' σ' H' S g' => h G' σ' H' S (g.trans g')
  | .ct _, h => fun G' σ' H' S g' => h G' σ' H' S (g.trans g')
  | .rt _, h => fun δ' G' σ' H' v S g' => h δ' G' σ' H' v S (g.trans g')
def tSD (K : PySem.W.Frag) (g : SF) : TS := fun D σ H => ∃ B G0 G δ fl, Sim K B G0 G δ σ H ∧ g δ = some fl ∧ EndOk K B G0 G D fl
def PSD (X : Cx) (st : Stmt) (g : SF) : Prop := PS X st (tSD X.K g)
def PSsD (X : Cx) (st : List Stmt) (g : SF) : Prop := PSs X st (tSD X.K g)
def gNil : SF := fun δ => some (.nx δ)
def gSeq (g1 g2 : SF) : SF := fun δ => (g1 δ).bind fun fl => match fl with
  | .nx δ' => g2 δ'
  | fl => some fl
theorem psd_nil : PSsD X [] gNil := PSs.imp pss_nil fun D σ H h => by
  obtain ⟨B, G0, G, δ, fl, S, e, k⟩ := h
  cases e
  exact k G σ H S (Same.refl G)
theorem psd_cons {st : Stmt} {rest : List Stmt} {g1 g2 : SF} (h1 : PSD X st g1) (h2 : PSsD X rest g2) : PSsD X (st :: rest) (gSeq g1 g2) := PSs.imp (pss_cons h1 h2) fun D σ H h => by
  obtain ⟨B, G0, G, δ, fl, S, e, k⟩ := h
  obtain ⟨f1, e1, e⟩ := Option.bind_eq_some_iff.mp e
  refine ⟨B, G0, G, δ, f1, S, e1, ?_⟩
  cases f1 with
  | nx δ' => exact fun G' σ' H' S' g' => ⟨B, G0, G', δ', fl, S', e, k.mono g'⟩
  | rt r => cases e; exact k
  | bk δ' => cases e; exact k
  | ct δ' => cases e; exact k
theorem psd_one {st : Stmt} {g : SF} (h : PSD X st g) : PSsD X [st] g := pss_one h
def gIf (c : BF') (g1 g2 : SF) : SF := fun δ => (c δ).bind fun b => if b = true then g1 δ else g2 δ
theorem psd_if {c : Expr} {a b : List Stmt} {pos : Pos} {fc : BF'} {g1 g2 : SF} (hc : PTD X c fc) (ha : PSsD X a g1) (hb : PSsD X b g2) : PSD X (.If c a b pos) (gIf fc g1 g2) := PS.imp (ps_if hc ha hb) fun D σ H h => by
  obtain ⟨B, G0, G, δ, fl, S, e, k⟩ := h
  obtain ⟨b, eb, e⟩ := Option.bind_eq_some_iff.mp e
  refine ⟨B, G0, G, δ, b, S, eb, fun G1 H1 S1 g1 => ?_⟩
  cases b with
  | true => rw [if_pos rfl] at e ⊢; exact ⟨B, G0, G1, δ, fl, S1, e, k.mono g1.gg⟩
  | false => rw [if_neg Bool.false_ne_true] at e ⊢; exact ⟨B, G0, G1, δ, fl, S1, e, k.mono g1.gg⟩
def Rs.out : Rs → Rs
  | .al _ ds => .ow ds
  | r => r
def gRet (f : EF) : SF := fun δ => (f δ).map fun r => .rt r.out
theorem psd_ret {e : Expr} {pos : Pos} {f : EF} (h : PD X e f) : PSD X (.Return (some e) pos) (gRet f) := PS.imp (ps_ret h) fun D σ H h => by
  obtain ⟨B, G0, G, δ, fl, S, e, k⟩ := h
  obtain ⟨r, er, e⟩ := Option.map_eq_some_iff.mp e
  subst e
  refine ⟨B, G0, G, δ, r, S, er, fun v G1 H1 S1 g1 q => ?_⟩
  refine k δ G1 σ H1 v S1 g1.gg ?_
  cases r with
  | sh d => exact q
  | ow ds =>
    obtain ⟨p, xs, e1, e2, e3, e4, rr⟩ := q
    exact ⟨p, xs, e1, e2, e3, S.b_free e4, rr⟩
  | al i ds =>
    obtain ⟨h1, h2⟩ := q
    obtain ⟨p, xs, e1, e2, e3, e4, rr⟩ := S1.slot i _ h1
    rw [h2] at e1
    exact ⟨p, xs, by injection e1 with e1; injection e1, e2, e3, e4, rr⟩
  | ft pre es =>
    obtain ⟨a, p, vs, xs, e1, e2, e3, e4, e5, e6, e7, rr⟩ := q
    exact ⟨a, p, vs, xs, e1, e2, e3, e4, e5, S.b_free e6, S.b_free e7, rr⟩
  | od ks ds =>
    obtain ⟨p, kvs, e1, e2, e3, e4, rr⟩ := q
    exact ⟨p, kvs, e1, e2, e3, S.b_free e4, rr⟩
theorem Sim.set {K : PySem.W.Frag} {B G0 G H : Hp} {δ : List Sl} {σ : L2.St} (S : Sim K B G0 G δ σ H) (i : Nat) {s : Sl} {v : V} (hs : SlR K B G H s (some (some v))) (hn : ∀ ds p, s = .ow ds → v = .ref p → NS δ σ p) : Sim K B G0 G (δ.set i s) (σ.set i (some v)) H := by
  have own : ∀ (j : Nat) (t : Sl), (δ.set i s)[j]? = some t → (j = i ∧ t = s ∧ (σ.set i (some v))[j]? = some (some v)) ∨ (j ≠ i ∧ δ[j]? = some t ∧ (σ.set i (some v))[j]? = σ[j]?) := fun j t h => by
    by_cases hj : j = i
    · subst hj
      have hlt : j < δ.length := by
        have := (List.getElem?_eq_some_iff.mp h).1
        simpa using this
      rw [List.getElem?_set_self hlt] at h
      exact .inl ⟨rfl, (Option.some.inj h).symm, List.getElem?_set_self (by rw [← S.len]; exact hlt)⟩
    · rw [List.getElem?_set_ne (Ne.symm hj)] at h
      exact .inr ⟨hj, h, List.getElem?_set_ne (Ne.symm hj)⟩
  refine ⟨by rw [List.length_set, List.length_set, S.len], S.bh, S.g0, S.gh, S.gb, fun j t h => ?_, fun a b ds es p hab ha hb ea eb => ?_⟩
  · rcases own j t h with ⟨_, rfl, e⟩ | ⟨_, h1, e⟩
    · rw [e]; exact hs
    · rw [e]; exact S.slot j t h1
  · rcases own a _ ha with ⟨rfl, q1, e1⟩ | ⟨n1, h1, e1⟩
    · rcases own b _ hb with ⟨rfl, _, _⟩ | ⟨n2, h2, e2⟩
      · exact hab rfl
      · rw [e1] at ea
        have ev : v = .ref p := by injection ea with ea; injection ea
        exact hn ds p q1.symm ev b _ h2 rfl (e2 ▸ eb)
    · rcases own b _ hb with ⟨rfl, q2, e2⟩ | ⟨n2, h2, e2⟩
      · rw [e2] at eb
        have ev : v = .ref p := by injection eb with eb; injection eb
        exact hn es p q2.symm ev a _ h1 rfl (e1 ▸ ea)
      · exact S.disj a b ds es p hab h1 h2 (e1 ▸ ea) (e2 ▸ eb)
def Rs.sl : Rs → Option Sl
  | .sh d => some (.sh d)
  | .ow ds => some (.ow ds)
  | .al _ _ => none
  | .ft _ _ => none
  | .od ks ds => some (.od ks ds)
def gSet (i : Nat) (f : EF) : SF := fun δ => (f δ).bind fun r => r.sl.map fun s => .nx (δ.set i s)
theorem set_run {K : PySem.W.Frag} {i : Nat} {f : EF} {D : Ends} {σ : L2.St} {H : Hp} (h : tSD K (gSet i f) D σ H) : tAsg (tD K f) (gName i) D σ H := by
  obtain ⟨B, G0, G, δ, fl, S, e, k⟩ := h
  obtain ⟨r, er, e⟩ := Option.bind_eq_some_iff.mp e
  obtain ⟨s, es, e⟩ := Option.map_eq_some_iff.mp e
  subst e
  refine ⟨B, G0, G, δ, r, S, er, fun v G1 H1 S1 g1 q => k G1 _ H1 ?_ g1.gg⟩
  cases r with
  | sh d => cases es; exact S1.set i ⟨v, rfl, q⟩ fun _ _ z => by cases z
  | al j ds => cases es
  | ft pre fs => cases es
  | ow ds =>
    cases es
    obtain ⟨p, xs, rfl, e2, e3, e4, rr⟩ := q
    exact S1.set i ⟨p, xs, rfl, e2, e3, S.b_free e4, rr⟩ fun _ p' _ z => by cases z; exact S.ns_of_free e4
  | od ks ds =>
    cases es
    obtain ⟨p, kvs, rfl, e2, e3, e4, rr⟩ := q
    exact S1.set i ⟨p, kvs, rfl, e2, e3, S.b_free e4, rr⟩ fun _ _ z => by cases z
theorem psd_set {i : Nat} {x : Str} {e : Expr} {f : EF} {pos pos' : Pos} (hN : X.N.Nodup) (hi : X.N[i]? = some x) (hx : Loc X.env.scope x) (h : PD X e f) (hs : swapsWith e (some (.Name x pos')) pos.line X.env = pure false := by rfl) (hf : X.fn x = true ∨ X.env.scope.names.lookup x = some .local := by first | exact .inl rfl | exact .inr rfl | assumption) : PSD X (.Assign [.Name x pos'] e pos) (gSet i f) :=
  PS.imp (ps_set hN hi hx h hs hf) fun _ _ _ q => set_run q
def frz (i : Nat) (δ : List Sl) : List Sl := match δ[i]? with
  | some (.ow ds) => δ.set i (.sh (.lst ds))
  | _ => δ
theorem Sim.frz {K : PySem.W.Frag} {B G0 G H : Hp} {δ : List Sl} {σ : L2.St} (S : Sim K B G0 G δ σ H) (i : Nat) : ∃ G', Same G G' ∧ Sim K B G0 G' (frz i δ) σ H := by
  unfold BF.frz
  cases q : δ[i]? with
  | none => exact ⟨G, Same.refl G, S⟩
  | some s =>
    cases s with
    | un => exact ⟨G, Same.refl G, S⟩
    | sh d => exact ⟨G, Same.refl G, S⟩
    | so C d => exact ⟨G, Same.refl G, S⟩
    | pt p k d => exact ⟨G, Same.refl G, S⟩
    | xc C => exact ⟨G, Same.refl G, S⟩
    | ow ds =>
      obtain ⟨p, xs, e1, e2, e3, e4, r⟩ := S.slot i _ q
      refine ⟨upd G p (.lst xs), Same.upd_new e3, ?_⟩
      have hlt : i < δ.length := (List.getElem?_eq_some_iff.mp q).1
      have own : ∀ (j : Nat) (t : Sl), (δ.set i (.sh (.lst ds)))[j]? = some t → (j = i ∧ t = .sh (.lst ds)) ∨ (j ≠ i ∧ δ[j]? = some t) := fun j t h => by
        by_cases hj : j = i
        · subst hj
          rw [List.getElem?_set_self hlt] at h
          exact .inl ⟨rfl, (Option.some.inj h).symm⟩
        · rw [List.getElem?_set_ne (Ne.symm hj)] at h
          exact .inr ⟨hj, h⟩
      refine ⟨by show (δ.set i (.sh (.lst ds))).length = σ.length; rw [List.length_set, S.len], S.bh, S.g0.trans (Same.upd_new e3), fun b u e => ?_, fun b hb => ?_, fun j t h => ?_, fun a b es fs q' hab ha hb ea eb => ?_⟩
      · by_cases z : b = p
        · subst z; rw [upd_same] at e; rw [e2]; exact e
        · rw [upd_ne z] at e; exact S.gh b u e
      · rw [upd_ne (by rintro rfl; exact hb e4)]; exact S.gb b hb
      · rcases own j t h with ⟨rfl, rfl⟩ | ⟨hj, h1⟩
        · refine ⟨.ref p, e1, ?_⟩
          unfold Rep
          exact ⟨p, xs, rfl, SqL.of upd_same, r.mono (Same.upd_new e3)⟩
        · have z := S.slot j t h1
          cases t with
          | un => trivial
          | sh d => obtain ⟨v, ev, rv⟩ := z; exact ⟨v, ev, rv.mono (Same.upd_new e3)⟩
          | ow es =>
            obtain ⟨q', ys, f1, f2, f3, f4, rr⟩ := z
            refine ⟨q', ys, f1, f2, ?_, f4, rr.mono (Same.upd_new e3)⟩
            rw [upd_ne (by rintro rfl; exact S.disj j i es ds _ hj h1 q f1 e1)]; exact f3
          | so C d => obtain ⟨v, ev, rv, zz⟩ := z; exact ⟨v, ev, rv, zz.trans (Same.upd_new e3)⟩
          | pt p' k d => obtain ⟨v, ys, ev, rv, zz, tt, l⟩ := z; exact ⟨v, ys, ev, rv.mono (Same.upd_new e3), Same.upd_new e3 _ _ zz, tt.mono (Same.upd_new e3), l⟩
          | xc C => obtain ⟨a, ev, zz⟩ := z; exact ⟨a, ev, zz.mono (Same.upd_new e3)⟩
          | od ks es =>
            obtain ⟨q', kvs, f1, f2, f3, f4, kk, rr⟩ := z
            refine ⟨q', kvs, f1, f2, ?_, f4, kk, rr.mono (Same.upd_new e3)⟩
            rw [upd_ne (by rintro rfl; rw [e2] at f2; cases f2)]; exact f3
          | oT ks es =>
            obtain ⟨q', kvs, f1, f2, f3, f4, rr⟩ := z
            refine ⟨q', kvs, f1, f2, ?_, f4, rr.mono (Same.upd_new e3)⟩
            rw [upd_ne (by rintro rfl; rw [e2] at f2; cases f2)]; exact f3
      · rcases own a _ ha with ⟨_, z⟩ | ⟨_, h1⟩
        · cases z
        · rcases own b _ hb with ⟨_, z⟩ | ⟨_, h2⟩
          · cases z
          · exact S.disj a b es fs q' hab h1 h2 ea eb
    | od ks ds => exact ⟨G, Same.refl G, S⟩
    | oT ks ds => exact ⟨G, Same.refl G, S⟩
def gFrz (is : List Nat) (g : SF) : SF := fun δ => g (is.foldl (fun δ i => frz i δ) δ)
theorem frz_all {K : PySem.W.Frag} {B G0 H : Hp} {σ : L2.St} : ∀ (is : List Nat) {G : Hp} {δ : List Sl}, Sim K B G0 G δ σ H → ∃ G', Same G G' ∧ Sim K B G0 G' (is.foldl (fun δ i => frz i δ) δ) σ H
  | [], G, δ, S => ⟨G, Same.refl G, S⟩
  | i :: is, G, δ, S => by
    obtain ⟨G1, g1, S1⟩ := S.frz i
    obtain ⟨G2, g2, S2⟩ := frz_all is S1
    exact ⟨G2, g1.trans g2, S2⟩
theorem tSD_frz {K : PySem.W.Frag} {is : List Nat} {g : SF} {D : Ends} {σ : L2.St} {H : Hp} (h : tSD K (gFrz is g) D σ H) : tSD K g D σ H := by
  obtain ⟨B, G0, G, δ, fl, S, e, k⟩ := h
  obtain ⟨G', g', S'⟩ := frz_all is S
  exact ⟨B, G0, G', _, fl, S', e, k.mono g'⟩
theorem psd_frz {st : List Stmt} {g : SF} (is : List Nat) (h : PSsD X st g) : PSsD X st (gFrz is g) := PSs.imp h fun _ _ _ q => tSD_frz q
theorem Sim.write {K : PySem.W.Frag} {B G0 G H : Hp} {δ : List Sl} {σ : L2.St} (S : Sim K B G0 G δ σ H) {i : Nat} {ds es : List Dm} {p : Addr} {ys : List V} (h : δ[i]? = some (.ow ds)) (hp : σ[i]? = some (some (.ref p))) (r : Reps K G es ys) : Sim K B G0 G (δ.set i (.ow es)) σ (upd H p (.lst ys)) := by
  obtain ⟨p', xs, e1, e2, e3, e4, _⟩ := S.slot i _ h
  rw [hp] at e1
  obtain rfl : p = p' := by injection e1 with e1; injection e1 with e1; injection e1
  have hlt : i < δ.length := (List.getElem?_eq_some_iff.mp h).1
  have own : ∀ (j : Nat) (t : Sl), (δ.set i (.ow es))[j]? = some t → (j = i ∧ t = .ow es) ∨ (j ≠ i ∧ δ[j]? = some t) := fun j t h => by
    by_cases hj : j = i
    · subst hj
      rw [List.getElem?_set_self hlt] at h
      exact .inl ⟨rfl, (Option.some.inj h).symm⟩
    · rw [List.getElem?_set_ne (Ne.symm hj)] at h
      exact .inr ⟨hj, h⟩
  refine ⟨by rw [List.length_set, S.len], fun b u e => ?_, S.g0, fun b u e => ?_, S.gb, fun j t hj => ?_, fun a b fs gs q hab ha hb ea eb => ?_⟩
  · rw [upd_ne (ne_of_none e e4)]; exact S.bh b u e
  · rw [upd_ne (ne_of_none e e3)]; exact S.gh b u e
  · rcases own j t hj with ⟨rfl, rfl⟩ | ⟨n, h1⟩
    · exact ⟨p, ys, hp, upd_same, e3, e4, r⟩
    · have z := S.slot j t h1
      cases t with
      | un => trivial
      | sh d => exact z
      | ow fs =>
        obtain ⟨q, zs, f1, f2, f3, f4, rr⟩ := z
        refine ⟨q, zs, f1, ?_, f3, f4, rr⟩
        rw [upd_ne (by rintro rfl; exact S.disj j i fs ds _ n h1 h f1 hp)]; exact f2
      | so C d => exact z
      | pt p' k d => exact z
      | xc C => exact z
      | od ks es =>
        obtain ⟨q, kvs, f1, f2, rr⟩ := z
        exact ⟨q, kvs, f1, by rw [upd_ne (by rintro rfl; rw [e2] at f2; cases f2)]; exact f2, rr⟩
      | oT ks es =>
        obtain ⟨q, kvs, f1, f2, rr⟩ := z
        exact ⟨q, kvs, f1, by rw [upd_ne (by rintro rfl; rw [e2] at f2; cases f2)]; exact f2, rr⟩
  · have h1 : ∃ fs', δ[a]? = some (.ow fs') := by
      rcases own a _ ha with ⟨rfl, _⟩ | ⟨_, h1⟩
      · exact ⟨_, h⟩
      · exact ⟨_, h1⟩
    have h2 : ∃ fs', δ[b]? = some (.ow fs') := by
      rcases own b _ hb with ⟨rfl, _⟩ | ⟨_, h2⟩
      · exact ⟨_, h⟩
      · exact ⟨_, h2⟩
    obtain ⟨_, h1⟩ := h1
    obtain ⟨_, h2⟩ := h2
    exact S.disj a b _ _ q hab h1 h2 ea eb
def own? (i : Nat) (δ : List Sl) : Option (List Dm) := match δ[i]? with
  | some (.ow ds) => some ds
  | _ => none
theorem own_some {i : Nat} {δ : List Sl} {ds : List Dm} (e : own? i δ = some ds) : δ[i]? = some (.ow ds) := by
  unfold own? at e
  cases q : δ[i]? with
  | none => rw [q] at e; cases e
  | some s =>
    rw [q] at e
    cases s with
    | un => cases e
    | sh d => cases e
    | so C d => cases e
    | pt p k d => cases e
    | xc C => cases e
    | ow es => cases e; rfl
    | od ks ds => cases e
    | oT ks ds => cases e
def gApp (i : Nat) (f : EF) : SF := fun δ => (own? i δ).bind fun ds => (fz f δ).bind fun r => if r.isSh && decide (ds.length < sizeLine) then some (.nx (δ.set i (.ow (ds ++ [r.dat])))) else none
theorem psd_app (i : Nat) {x : Str} {e : Expr} {f : EF} {p apos cpos pos : Pos} (hv : PE X (.Name x p) (tVar i)) (h : PD X e f) (hbase : attributeBase (.Name x p) "append" X.env (eval (.Name x p) X.env) = eval (.Name x p) X.env := by rfl)
    (hfew : ((backTo cpos (starEach [e] X.env)).all (fun x => !x.1) && (backToKw cpos (keywordEach [] X.env)).all (fun x => x.1.isSome) && decide ([e].length + ([] : List Keyword).length + (if ([] : List Keyword).isEmpty then 0 else 1) < 30)) = true := by rfl)
    (hline : (apos.endLine == cpos.line) = true := by rfl) (hs : starEach [e] X.env = (false, eval e X.env) :: starEach [] X.env := by rfl) (hsw : swapsWith (.Call (.Attribute (.Name x p) "append" apos) [e] [] cpos) none pos.line X.env = pure false := by rfl) :
    PSD X (.Expr (.Call (.Attribute (.Name x p) "append" apos) [e] [] cpos) pos) (gApp i f) := by
  refine PS.imp (ps_expr (pe_bm PySem.F.plainAttrs_list PySem.F.slot_list_append PySem.F.type_list_append mt_append hv (pad_cons h pad_nil hs) hbase hfew hline hs) hsw) fun D σ H h => ?_
  obtain ⟨B, G0, G, δ, fl, S, e, k⟩ := h
  obtain ⟨ds, eds, e⟩ := Option.bind_eq_some_iff.mp e
  obtain ⟨r, er, e⟩ := Option.bind_eq_some_iff.mp e
  have ho := own_some eds
  obtain ⟨p, xs, e1, e2, e3, e4, rr⟩ := S.slot i _ ho
  by_cases hc : (r.isSh && decide (ds.length < sizeLine)) = true
  · rw [if_pos hc] at e
    cases e
    rw [Bool.and_eq_true] at hc
    refine ⟨_, e1, .inl ⟨rfl, xs, SqL.of e2⟩, B, G0, G, δ, [r], S, ?_, fun vs G1 H1 S1 g1 q1 => ?_⟩
    · unfold fz at er
      obtain ⟨r0, er0, er⟩ := Option.map_eq_some_iff.mp er
      unfold evs evs
      rw [er0, ← er]; rfl
    · obtain ⟨v, rfl, q⟩ := RsRs.one q1
      cases r with
      | ow _ => exact absurd (show false = true from hc.1) Bool.false_ne_true
      | al _ _ => exact absurd (show false = true from hc.1) Bool.false_ne_true
      | ft _ _ => exact absurd (show false = true from hc.1) Bool.false_ne_true
      | sh d =>
        have hq : Rep X.K G1 d v := q
        have e2' := g1.hh _ _ e2
        have rr1 := rr.mono g1.gg
        refine ⟨p, xs, v, rfl, rfl, e2', by rw [← rr.length]; exact of_decide_eq_true hc.2, ?_⟩
        exact k G1 σ _ (S1.write ho e1 (rr1.append (Reps.cons hq Reps.nil))) g1.gg
      | od ks ds => exact absurd (show false = true from hc.1) Bool.false_ne_true
  · rw [if_neg hc] at e; cases e
end
end BF
set_option Elab.async false
set_option linter.all false
set_option maxRecDepth 100000
set_option maxHeartbeats 4000000
namespace BF
open PySem PySem.Spec L2
noncomputable section
variable {X : Cx}
abbrev IF := List Sl → Option (List Dm)
def JD (K : PySem.W.Frag) (J : It) (ds : List Dm) (G : Hp) : Prop := ∀ (i : Nat) (H G1 : Hp), Same G G1 → Same G1 H →
  (∀ d, ds[i]? = some d → J.go i H ∧ ∀ x H', J.yld i H x H' → ∃ G2, Gr G1 H G2 H' ∧ Same G2 H' ∧ Rep K G2 d x) ∧ (ds.length ≤ i → J.stop i H)
def tI (K : PySem.W.Frag) (src : IF) : TI := fun σ H R => ∃ B G0 G δ ds, Sim K B G0 G δ σ H ∧ src δ = some ds ∧ ∀ J G' H', Sim K B G0 G' δ σ H' → Gr G H G' H' → JD K J ds G' → R J H'
def PID (X : Cx) (tg e : Expr) (src : IF) : Prop := PI X tg e (tI X.K src)
theorem PI.imp {tg e : Expr} {t t' : TI} (h : PI X tg e t) (i : ∀ σ H Q, t' σ H Q → t σ H Q) : PI X tg e t' := fun pins s σ H R I q => h pins s σ H R I (i σ H R q)
def shl? : Rs → Option (List Dm)
  | .sh (.lst ds) => some ds
  | _ => none
def sht? : Rs → Option (List Dm)
  | .sh (.tup ds) => some ds
  | _ => none
theorem shl_some {r : Rs} {ds : List Dm} (e : shl? r = some ds) : r = .sh (.lst ds) := by
  unfold shl? at e; split at e
  · cases e; rfl
  · cases e
theorem sht_some {r : Rs} {ds : List Dm} (e : sht? r = some ds) : r = .sh (.tup ds) := by
  unfold sht? at e; split at e
  · cases e; rfl
  · cases e
def iL (f : EF) : IF := fun δ => (fz f δ).bind shl?
def iT (f : EF) : IF := fun δ => (fz f δ).bind sht?
theorem jd_list {K : PySem.W.Frag} {G : Hp} {a : Addr} {xs : List V} {ds : List Dm} (hq : SqL K G a xs) (rr : Reps K G ds xs) : JD K (Itl K a) ds G := by
  intro i H G1 g1 g2
  have hq1 := g2.seq (g1.seq hq)
  refine ⟨fun d hd => ?_, fun hi => ⟨xs, hq1, by rw [← rr.length]; exact hi⟩⟩
  obtain ⟨v, hv, rv⟩ := rr.get hd
  refine ⟨⟨xs, v, hq1, hv⟩, fun x H' y => ?_⟩
  obtain ⟨rfl, y⟩ := y
  have := y xs hq1
  rw [hv] at this
  cases this
  exact ⟨G1, Gr.refl, g2, rv.mono g1⟩
theorem jd_tup {K : PySem.W.Frag} {G : Hp} {a : Addr} {xs : List V} {ds : List Dm} (hq : SqT K G a xs) (rr : Reps K G ds xs) : JD K (Itt K a) ds G := by
  intro i H G1 g1 g2
  have hq1 := Same.seqT g2 (Same.seqT g1 hq)
  refine ⟨fun d hd => ?_, fun hi => ⟨xs, hq1, by rw [← rr.length]; exact hi⟩⟩
  obtain ⟨v, hv, rv⟩ := rr.get hd
  refine ⟨⟨xs, v, hq1, hv⟩, fun x H' y => ?_⟩
  obtain ⟨rfl, y⟩ := y
  have := y xs hq1
  rw [hv] at this
  cases this
  exact ⟨G1, Gr.refl, g2, rv.mono g1⟩
theorem pi_l {tg e : Expr} {f : EF} (h : PD X e f) : PID X tg e (iL f) := PI.imp (pi_list h.fz) fun σ H R q => by
  obtain ⟨B, G0, G, δ, ds, S, e, k⟩ := q
  obtain ⟨r, er, e⟩ := Option.bind_eq_some_iff.mp e
  rw [shl_some e] at er
  refine ⟨B, G0, G, δ, _, S, er, fun v G1 H1 S1 g1 q1 => ?_⟩
  have q1' : Rep X.K G1 (.lst ds) v := q1
  unfold Rep at q1'
  obtain ⟨a, xs, rfl, hq, rr⟩ := q1'
  exact ⟨a, rfl, ⟨xs, S1.gh.seq hq⟩, k _ G1 H1 S1 g1 (jd_list hq rr)⟩
theorem pi_t {tg e : Expr} {f : EF} (h : PD X e f) : PID X tg e (iT f) := PI.imp (pi_tup h.fz) fun σ H R q => by
  obtain ⟨B, G0, G, δ, ds, S, e, k⟩ := q
  obtain ⟨r, er, e⟩ := Option.bind_eq_some_iff.mp e
  rw [sht_some e] at er
  refine ⟨B, G0, G, δ, _, S, er, fun v G1 H1 S1 g1 q1 => ?_⟩
  have q1' : Rep X.K G1 (.tup ds) v := q1
  unfold Rep at q1'
  obtain ⟨a, xs, rfl, hq, rr⟩ := q1'
  exact ⟨a, rfl, ⟨xs, Same.seqT S1.gh hq⟩, k _ G1 H1 S1 g1 (jd_tup hq rr)⟩
def rng (lo : Int) (n : Nat) : List Dm := (List.range n).map fun (k : Nat) => .int (lo + (k : Int))
theorem jd_rng {K : PySem.W.Frag} {G : Hp} {lo : Int} {n : Nat} : JD K (Itr lo n) (rng lo n) G := by
  intro i H G1 g1 g2
  have hl : (rng lo n).length = n := by unfold rng; simp
  refine ⟨fun d hd => ?_, fun hi => by rw [hl] at hi; exact hi⟩
  have hin : i < n := by rw [← hl]; exact (List.getElem?_eq_some_iff.mp hd).1
  refine ⟨hin, fun x H' y => ?_⟩
  obtain ⟨rfl, rfl⟩ := y
  refine ⟨G1, Gr.refl, g2, ?_⟩
  have : (rng lo n)[i]? = some (.int (lo + (i : Int))) := by unfold rng; simp [hin]
  rw [this] at hd
  cases hd
  unfold Rep; rfl
def okR (j : Int) : Bool := okB (-(2 ^ 62) ≤ j ∧ j < 2 ^ 62)
def iR (f : EF) : IF := fun δ => (dt f δ).bind fun d => d.int?.bind fun j => if okR j then some (rng 0 j.toNat) else none
def iR2 (f g : EF) : IF := fun δ => (dt f δ).bind fun d => d.int?.bind fun i => (dt g δ).bind fun d => d.int?.bind fun j => if okR i && okR j then some (rng i (j - i).toNat) else none
theorem pi_r {tg a : Expr} {f : EF} {p pos : Pos} (h : PD X a f) (hg : Gl X "range") (hm : X.mg "range" = none) (hs : starEach [a] X.env = [(false, eval a X.env)] := by rfl) : PID X tg (.Call (.Name "range" p) [a] [] pos) (iR f) := PI.imp (pi_range1 hg hm (pad_cons h pad_nil hs) hs) fun σ H R q => by
  obtain ⟨B, G0, G, δ, ds, S, e, k⟩ := q
  obtain ⟨d, ed, e⟩ := Option.bind_eq_some_iff.mp e
  obtain ⟨ra, era, rfl⟩ := dt_some ed
  obtain ⟨j, ej, e⟩ := Option.bind_eq_some_iff.mp e
  by_cases hc : okR j = true
  · rw [if_pos hc] at e; cases e
    have hc := okB_iff.mp hc
    refine ⟨B, G0, G, δ, [ra.fz], S, by unfold evs evs; rw [era]; rfl, fun vs G1 H1 S1 g1 q1 => ?_⟩
    obtain ⟨v, rfl, q⟩ := RsRs.one q1
    have r1 := RsR.rep S1 q
    rw [Rs.fz_dat, int_some ej] at r1
    unfold Rep at r1
    subst r1
    exact ⟨j, rfl, hc.1, hc.2, k _ G1 H1 S1 g1 jd_rng⟩
  · rw [if_neg hc] at e; cases e
theorem pi_r2 {tg a b : Expr} {f g : EF} {p pos : Pos} (h : PD X a f) (h' : PD X b g) (hg : Gl X "range") (hm : X.mg "range" = none) (hs : starEach [a, b] X.env = [(false, eval a X.env), (false, eval b X.env)] := by rfl) (hs2 : starEach [b] X.env = [(false, eval b X.env)] := by rfl) (hs1 : starEach [a, b] X.env = (false, eval a X.env) :: starEach [b] X.env := by rfl) : PID X tg (.Call (.Name "range" p) [a, b] [] pos) (iR2 f g) := PI.imp (pi_range2 hg hm (pad_cons h (pad_cons h' pad_nil hs2) hs1) hs hs2) fun σ H R q => by
  obtain ⟨B, G0, G, δ, ds, S, e, k⟩ := q
  obtain ⟨d, ed, e⟩ := Option.bind_eq_some_iff.mp e
  obtain ⟨ra, era, rfl⟩ := dt_some ed
  obtain ⟨i, ei, e⟩ := Option.bind_eq_some_iff.mp e
  obtain ⟨d', ed', e⟩ := Option.bind_eq_some_iff.mp e
  obtain ⟨rb, erb, rfl⟩ := dt_some ed'
  obtain ⟨j, ej, e⟩ := Option.bind_eq_some_iff.mp e
  by_cases hc : (okR i && okR j) = true
  · rw [if_pos hc] at e; cases e
    unfold okR at hc
    simp only [Bool.and_eq_true, okB_iff] at hc
    refine ⟨B, G0, G, δ, [ra.fz, rb.fz], S, by unfold evs evs evs; rw [era, erb]; rfl, fun vs G1 H1 S1 g1 q1 => ?_⟩
    obtain ⟨v, t, rfl, _, q, q1⟩ := q1
    obtain ⟨u, rfl, q'⟩ := RsRs.one q1
    have r1 := RsR.rep S1 q
    have r2 := RsR.rep S1 q'
    rw [Rs.fz_dat, int_some ei] at r1
    rw [Rs.fz_dat, int_some ej] at r2
    unfold Rep at r1 r2
    subst r1 r2
    exact ⟨i, j, rfl, ⟨hc.1.1, hc.1.2, hc.2.1, hc.2.2⟩, k _ G1 H1 S1 g1 jd_rng⟩
  · rw [if_neg hc] at e; cases e
def enumD (ds : List Dm) : List Dm := (List.range ds.length).map fun (k : Nat) => .tup [.int (k : Int), ds.getD k .non]
theorem jd_enum {K : PySem.W.Frag} {G : Hp} {a : Addr} {xs : List V} {ds : List Dm} (hq : SqL K G a xs) (rr : Reps K G ds xs) : JD K (Ite K a) (enumD ds) G := by
  intro i H G1 g1 g2
  have hq1 := g2.seq (g1.seq hq)
  have hl : (enumD ds).length = ds.length := by unfold enumD; simp
  refine ⟨fun d hd => ?_, fun hi => ⟨xs, hq1, by rw [← rr.length, ← hl]; exact hi⟩⟩
  have hin : i < ds.length := by rw [← hl]; exact (List.getElem?_eq_some_iff.mp hd).1
  have hdi : ds[i]? = some ds[i] := List.getElem?_eq_getElem hin
  obtain ⟨v, hv, rv⟩ := rr.get hdi
  refine ⟨⟨xs, v, hq1, hv⟩, fun x H' y => ?_⟩
  obtain ⟨t, ht, rfl, y, rfl, hy⟩ := y
  have := hy xs hq1
  rw [hv] at this
  cases this
  have g1t : G1 t = none := g2.free ht
  refine ⟨upd G1 t (.tup [.int i, v]), ⟨Same.upd_new g1t, Same.upd_new ht, fun b hb => upd_ne (by rintro rfl; exact hb ht)⟩, fun b u e => ?_, ?_⟩
  · by_cases z : b = t
    · subst z; rw [upd_same] at e ⊢; exact e
    · rw [upd_ne z] at e ⊢; exact g2 b u e
  · have e2 : (enumD ds)[i]? = some (.tup [.int (i : Int), ds[i]]) := by unfold enumD; simp [hin]
    rw [e2] at hd
    cases hd
    unfold Rep
    exact ⟨t, _, rfl, SqT.of upd_same, Reps.cons (by unfold Rep; rfl) (Reps.cons (rv.mono (g1.trans (Same.upd_new g1t))) Reps.nil)⟩
def iE (f : EF) : IF := fun δ => (fz f δ).bind fun r => (shl? r).map enumD
theorem pi_e {a : Expr} {f : EF} {p pos : Pos} {elts : List Expr} {x1 : Nat} {tp : Pos} (h : PD X a f) (hg : Gl X "enumerate") (hm : X.mg "enumerate" = none) (hb : bootBuiltins "enumerate" = some (.type "enumerate")) (hs : starEach [a] X.env = [(false, eval a X.env)] := by rfl) :
    PID X (.Tuple elts x1 tp) (.Call (.Name "enumerate" p) [a] [] pos) (iE f) := PI.imp (pi_enum hg hm hb (pad_cons h pad_nil hs) hs) fun σ H R q => by
  obtain ⟨B, G0, G, δ, ds, S, e, k⟩ := q
  obtain ⟨r, er, e⟩ := Option.bind_eq_some_iff.mp e
  obtain ⟨es, ees, e⟩ := Option.map_eq_some_iff.mp e
  subst e
  rw [shl_some ees] at er
  unfold fz at er
  obtain ⟨r0, er0, er⟩ := Option.map_eq_some_iff.mp er
  refine ⟨B, G0, G, δ, [r0.fz], S, by unfold evs evs; rw [er0]; rfl, fun vs G1 H1 S1 g1 q1 => ?_⟩
  obtain ⟨v, rfl, q⟩ := RsRs.one q1
  rw [er] at q
  have q1' : Rep X.K G1 (.lst es) v := q
  unfold Rep at q1'
  obtain ⟨a, xs, rfl, hq, rr⟩ := q1'
  exact ⟨a, rfl, ⟨xs, S1.gh.seq hq⟩, k _ G1 H1 S1 g1 (jd_enum hq rr)⟩
inductive Tg where
  | nm (i : Nat) | tp (is : List Nat)
def Tg.slots : Tg → List Nat
  | .nm i => [i]
  | .tp is => is
def setTs : List Nat → List Dm → List Sl → Option (List Sl)
  | [], [], δ => some δ
  | i :: is, d :: ds, δ => setTs is ds (δ.set i (.sh d))
  | _, _, _ => none
def setT : Tg → Dm → List Sl → Option (List Sl)
  | .nm i, d, δ => some (δ.set i (.sh d))
  | .tp is, .tup ds, δ => setTs is ds δ
  | _, _, _ => none
def tGD (K : PySem.W.Frag) (t : Tg) : TG := fun v σ H Q => ∃ B G0 G δ d δ', Sim K B G0 G δ σ H ∧ Rep K G d v ∧ setT t d δ = some δ' ∧ ∀ σ', Sim K B G0 G δ' σ' H → (∀ j, j ∉ t.slots → σ'[j]? = σ[j]?) → Q σ' H
def tGsD (K : PySem.W.Frag) (is : List Nat) : TGs := fun vs σ H Q => ∃ B G0 G δ ds δ', Sim K B G0 G δ σ H ∧ Reps K G ds vs ∧ setTs is ds δ = some δ' ∧ ∀ σ', Sim K B G0 G δ' σ' H → (∀ j, j ∉ is → σ'[j]? = σ[j]?) → Q σ' H
def PGD (X : Cx) (tg : Expr) (t : Tg) : Prop := PG X tg (tGD X.K t)
def PGsD (X : Cx) (ts : List Expr) (is : List Nat) : Prop := PGs X ts (tGsD X.K is)
theorem PG.imp {tg : Expr} {t t' : TG} (h : PG X tg t) (i : ∀ v σ H Q, t' v σ H Q → t v σ H Q) : PG X tg t' := fun pins s σ H v u Q I r q => h pins s σ H v u Q I r (i v σ H Q q)
theorem PGs.imp {tg : List Expr} {t t' : TGs} (h : PGs X tg t) (i : ∀ v σ H Q, t' v σ H Q → t v σ H Q) : PGs X tg t' := fun pins s σ H v u Q I r q => h pins s σ H v u Q I r (i v σ H Q q)
theorem pg_n (i : Nat) {x : Str} {pos : Pos} (hN : X.N.Nodup) (hi : X.N[i]? = some x := by rfl) (hx : Loc X.env.scope x := by first | exact Or.inl rfl | exact Or.inr rfl) (hf : X.fn x = true ∨ X.env.scope.names.lookup x = some .local := by first | exact .inl rfl | exact .inr rfl | assumption) : PGD X (.Name x pos) (.nm i) :=
  PG.imp (pg_name hN hi hx hf) fun v σ H Q h => by
    obtain ⟨B, G0, G, δ, d, δ', S, r, e, k⟩ := h
    cases e
    exact k _ (S.set i ⟨v, rfl, r⟩ fun _ _ z => by cases z) fun j hj => List.getElem?_set_ne (fun z => hj (by rw [z]; exact List.mem_singleton_self _))
theorem pgs_n : PGsD X [] [] := PGs.imp pgs_nil fun vs σ H Q h => by
  obtain ⟨B, G0, G, δ, ds, δ', S, r, e, k⟩ := h
  cases ds with
  | cons d ds => cases e
  | nil =>
    cases e
    unfold Reps at r
    exact ⟨r, k σ S fun _ _ => rfl⟩
theorem pgs_c (i : Nat) {x : Str} {pos : Pos} {es : List Expr} {is : List Nat} (h2 : PGsD X es is) (hN : X.N.Nodup) (hi : X.N[i]? = some x := by rfl) (hx : Loc X.env.scope x := by first | exact Or.inl rfl | exact Or.inr rfl) (hf : X.fn x = true ∨ X.env.scope.names.lookup x = some .local := by first | exact .inl rfl | exact .inr rfl | assumption)
    (hs : (assignEach (.Name x pos :: es) X.env).map (·.2) = assign (.Name x pos) X.env :: (assignEach es X.env).map (·.2) := by rfl) : PGsD X (.Name x pos :: es) (i :: is) := PGs.imp (pgs_cons (pg_name hN hi hx hf) h2 hs) fun vs σ H Q h => by
  obtain ⟨B, G0, G, δ, ds, δ', S, r, e, k⟩ := h
  cases ds with
  | nil => cases e
  | cons d ds =>
    unfold Reps at r
    obtain ⟨v, t, rfl, rv, rt⟩ := r
    refine ⟨v, t, rfl, B, G0, G, _, ds, δ', S.set i (s := .sh d) ⟨v, rfl, rv⟩ (fun _ _ z => by cases z), rt, e, fun σ' S' hk => k σ' S' fun j hj => ?_⟩
    rw [hk j fun z => hj (List.mem_cons_of_mem _ z)]
    exact List.getElem?_set_ne fun z => hj (by rw [z]; exact List.mem_cons_self)
theorem pg_t {es : List Expr} {k : Nat} {is : List Nat} {pos : Pos} (hc : X.calm = true) (h : PGsD X es is) (hn : (assignEach es X.env).length = is.length := by rfl) (hst : (assignEach es X.env).findIdx? (·.1) = none := by rfl) : PGD X (.Tuple es k pos) (.tp is) := PG.imp (pg_tup hc h hn hst) fun v σ H Q h => by
  obtain ⟨B, G0, G, δ, d, δ', S, r, e, k⟩ := h
  have lenTs : ∀ {is : List Nat} {ds : List Dm} {δ δ' : List Sl}, setTs is ds δ = some δ' → ds.length = is.length := by
    intro is
    induction is with
    | nil => intro ds δ δ' e; cases ds with | nil => rfl | cons d ds => cases e
    | cons i is ih => intro ds δ δ' e; cases ds with | nil => cases e | cons d ds => rw [List.length_cons, List.length_cons, ih e]
  cases d with
  | tup ds =>
    have e' : setTs is ds δ = some δ' := e
    unfold Rep at r
    obtain ⟨a, xs, rfl, hq, rr⟩ := r
    exact ⟨a, xs, rfl, Same.seqT S.gh hq, by rw [← rr.length, lenTs e'], B, G0, G, δ, ds, δ', S, rr, e', k⟩
  | non => cases e
  | bl b => cases e
  | int i => cases e
  | str z => cases e
  | lst ds => cases e
  | dct ks ds => cases e
def loopD (t : Tg) (b : SF) : List Dm → List Sl → Option Fl
  | [], δ => some (.nx δ)
  | d :: r, δ => (setT t d δ).bind fun δ1 => (b δ1).bind fun fl => match fl with
    | .nx δ' => loopD t b r δ'
    | .ct δ' => loopD t b r δ'
    | .bk δ' => some (.nx δ')
    | .rt r => some (.rt r)
def gFor (src : IF) (t : Tg) (b : SF) : SF := fun δ => (src δ).bind fun ds => loopD t b ds δ
theorem psd_for {tg iter : Expr} {body : List Stmt} {pos : Pos} {src : IF} {t : Tg} {b : SF} (hp : PassesOwn (model X.prog X.w) X.A X.env X.xe) (hc : X.calm = true) (hi : PID X tg iter src) (hg : PGD X tg t) (hb : PSsD X body b)
    (hs : ∀ x, foldedSetIterable iter X.env x = pure x := by intro _; rfl) : PSD X (.For tg iter body [] pos) (gFor src t b) := PS.imp (ps_for hp hc hi hg hb hs) fun D σ H h => by
  obtain ⟨B, G0, G, δ, fl, S, e, k⟩ := h
  obtain ⟨ds, eds, e⟩ := Option.bind_eq_some_iff.mp e
  refine ⟨B, G0, G, δ, ds, S, eds, fun J G1 H1 S1 g1 jd => ?_⟩
  refine ⟨fun i m σ H => m = ds.length - i ∧ i ≤ ds.length ∧ ∃ G2 δ, Sim X.K B G0 G2 δ σ H ∧ Same G1 G2 ∧ loopD t b (ds.drop i) δ = some fl, ⟨ds.length, by simp, Nat.zero_le _, G1, δ, S1, Same.refl G1, e⟩, ?_⟩
  rintro i m σ2 H2 ⟨rfl, hi, G2, δ2, S2, g2, e2⟩
  obtain ⟨jg, js⟩ := jd i H2 G2 g2 S2.gh
  by_cases hlt : i < ds.length
  · have hd : ds[i]? = some ds[i] := List.getElem?_eq_getElem hlt
    obtain ⟨go, yl⟩ := jg _ hd
    rw [List.drop_eq_getElem_cons hlt] at e2
    obtain ⟨δ3, e3, e2⟩ := Option.bind_eq_some_iff.mp (show ((setT t ds[i] δ2).bind fun δ1 => (b δ1).bind fun fl => match fl with
      | .nx δ' => loopD t b (ds.drop (i + 1)) δ'
      | .ct δ' => loopD t b (ds.drop (i + 1)) δ'
      | .bk δ' => some (.nx δ')
      | .rt r => some (.rt r)) = some fl from e2)
    obtain ⟨f4, e4, e2⟩ := Option.bind_eq_some_iff.mp e2
    refine .inr ⟨go, fun σ' H' => ∃ G5 δ5, Sim X.K B G0 G5 δ5 σ' H' ∧ Same G1 G5 ∧ loopD t b (ds.drop (i + 1)) δ5 = some fl, fun σ' H' h => ⟨ds.length - (i + 1), by omega, rfl, hlt, h⟩, fun x H3 y => ?_⟩
    obtain ⟨G3, g3, gh3, rx⟩ := yl x H3 y
    refine ⟨B, G0, G3, δ2, ds[i], δ3, S2.ext g3 gh3, rx, e3, fun σ4 S4 _ => ⟨B, G0, G3, δ3, f4, S4, e4, ?_⟩⟩
    have g13 : Same G1 G3 := g2.trans g3.gg
    cases f4 with
    | nx δ' => exact fun G' σ' H' S' g' => ⟨G', δ', S', g13.trans g', e2⟩
    | ct δ' => exact fun G' σ' H' S' g' => ⟨G', δ', S', g13.trans g', e2⟩
    | bk δ' => cases e2; exact fun G' σ' H' S' g' => k G' σ' H' S' (g1.gg.trans (g13.trans g'))
    | rt r => cases e2; exact fun δ' G' σ' H' v S' g' q => k δ' G' σ' H' v S' (g1.gg.trans (g13.trans g')) q
  · have hi' : i = ds.length := Nat.le_antisymm hi (Nat.not_lt.mp hlt)
    subst hi'
    rw [List.drop_length] at e2
    cases e2
    exact .inl ⟨js (Nat.le_refl _), k G2 σ2 H2 S2 (g1.gg.trans g2)⟩
def subS (ix : List (Option Nat)) (δ : List Sl) : List Sl := ix.map fun o => match o with
  | some i => (δ[i]?).getD .un
  | none => .un
def Inj (ix : List (Option Nat)) : Prop := ∀ j ∈ List.range ix.length, ∀ k ∈ List.range ix.length, ix.getD j none ≠ none → ix.getD j none = ix.getD k none → j = k
instance (ix : List (Option Nat)) : Decidable (Inj ix) := by unfold Inj; infer_instance
theorem sub_at {α : Type} {ix : List (Option Nat)} {σ : List (Option α)} {j : Nat} : (sub ix σ)[j]? = (ix[j]?).map fun o => match o with | some i => (σ[i]?).join | none => none := by
  unfold sub; rw [List.getElem?_map]; try rfl
theorem subS_at {ix : List (Option Nat)} {δ : List Sl} {j : Nat} : (subS ix δ)[j]? = (ix[j]?).map fun o => match o with | some i => (δ[i]?).getD .un | none => .un := by
  unfold subS; rw [List.getElem?_map]
theorem subS_from {ix : List (Option Nat)} {δ : List Sl} {j : Nat} {s : Sl} (h : (subS ix δ)[j]? = some s) (hs : s ≠ .un) : ∃ i, ix[j]? = some (some i) ∧ δ[i]? = some s := by
  rw [subS_at] at h
  obtain ⟨o, eo, h⟩ := Option.map_eq_some_iff.mp h
  cases o with
  | none => exact absurd h.symm hs
  | some i =>
    refine ⟨i, eo, ?_⟩
    have h' : (δ[i]?).getD .un = s := h
    cases q : δ[i]? with
    | none => rw [q] at h'; exact absurd h'.symm hs
    | some t => rw [q] at h'; exact congrArg some h'
theorem Sim.sub {K : PySem.W.Frag} {B G0 G H : Hp} {δ : List Sl} {σ : L2.St} (S : Sim K B G0 G δ σ H) {ix : List (Option Nat)} (inj : Inj ix) : Sim K B G0 G (subS ix δ) (sub ix σ) H := by
  have fromσ : ∀ {j i : Nat} {v : V}, ix[j]? = some (some i) → σ[i]? = some (some v) → (BF.sub ix σ)[j]? = some (some v) := fun {j i v} e q => by
    rw [sub_at, e]
    show some ((σ[i]?).join) = _
    rw [q]; rfl
  refine ⟨by unfold subS BF.sub; rw [List.length_map, List.length_map], S.bh, S.g0, S.gh, S.gb, fun j s h => ?_, fun a b ds es p hab ha hb ea eb => ?_⟩
  · cases s with
    | un => trivial
    | sh d =>
      obtain ⟨i, e1, e2⟩ := subS_from h (by intro z; cases z)
      obtain ⟨v, e3, r⟩ := S.slot i _ e2
      exact ⟨v, fromσ e1 e3, r⟩
    | ow ds =>
      obtain ⟨i, e1, e2⟩ := subS_from h (by intro z; cases z)
      obtain ⟨p, xs, e3, r⟩ := S.slot i _ e2
      exact ⟨p, xs, fromσ e1 e3, r⟩
    | so C d =>
      obtain ⟨i, e1, e2⟩ := subS_from h (by intro z; cases z)
      obtain ⟨v, e3, r⟩ := S.slot i _ e2
      exact ⟨v, fromσ e1 e3, r⟩
    | pt p k d =>
      obtain ⟨i, e1, e2⟩ := subS_from h (by intro z; cases z)
      obtain ⟨v, xs, e3, r⟩ := S.slot i _ e2
      exact ⟨v, xs, fromσ e1 e3, r⟩
    | xc C =>
      obtain ⟨i, e1, e2⟩ := subS_from h (by intro z; cases z)
      obtain ⟨a, e3, r⟩ := S.slot i _ e2
      exact ⟨a, fromσ e1 e3, r⟩
    | od ks ds =>
      obtain ⟨i, e1, e2⟩ := subS_from h (by intro z; cases z)
      obtain ⟨p, xs, e3, r⟩ := S.slot i _ e2
      exact ⟨p, xs, fromσ e1 e3, r⟩
    | oT ks ds =>
      obtain ⟨i, e1, e2⟩ := subS_from h (by intro z; cases z)
      obtain ⟨p, xs, e3, r⟩ := S.slot i _ e2
      exact ⟨p, xs, fromσ e1 e3, r⟩
  · obtain ⟨i, e1, e2⟩ := subS_from ha (by intro z; cases z)
    obtain ⟨j, f1, f2⟩ := subS_from hb (by intro z; cases z)
    obtain ⟨p1, xs1, e3, _⟩ := S.slot i _ e2
    obtain ⟨p2, xs2, f3, _⟩ := S.slot j _ f2
    rw [fromσ e1 e3] at ea
    rw [fromσ f1 f3] at eb
    have z1 : p1 = p := by injection ea with ea; injection ea with ea; injection ea
    have z2 : p2 = p := by injection eb with eb; injection eb with eb; injection eb
    subst z1 z2
    by_cases hij : i = j
    · subst hij
      refine hab (inj a (List.mem_range.mpr (List.getElem?_eq_some_iff.mp e1).1) b (List.mem_range.mpr (List.getElem?_eq_some_iff.mp f1).1) ?_ ?_)
      · rw [List.getD_eq_getElem?_getD, e1]; simp
      · rw [List.getD_eq_getElem?_getD, List.getD_eq_getElem?_getD, e1, f1]
    · exact S.disj i j _ _ _ hij e2 f2 e3 f3
def mapD (t : Tg) (f : EF) (δ : List Sl) : List Dm → Option (List Dm)
  | [] => some []
  | d :: r => (setT t d δ).bind fun δ1 => (fz f δ1).bind fun y => if y.isSh then (mapD t f δ r).map fun ys => y.dat :: ys else none
def fComp (src : IF) (t : Tg) (ix : List (Option Nat)) (f : EF) : EF := fun δ => (src δ).bind fun ds => if ds.length ≤ sizeLine then (mapD t f (subS ix δ) ds).map .ow else none
theorem mapD_length {t : Tg} {f : EF} {δ : List Sl} : ∀ {ds ys : List Dm}, mapD t f δ ds = some ys → ys.length = ds.length
  | [], ys, e => by cases e; rfl
  | d :: r, ys, e => by
    obtain ⟨δ1, e1, e⟩ := Option.bind_eq_some_iff.mp (show ((setT t d δ).bind fun δ1 => (fz f δ1).bind fun y => if y.isSh then (mapD t f δ r).map fun ys => y.dat :: ys else none) = some ys from e)
    obtain ⟨y, e2, e⟩ := Option.bind_eq_some_iff.mp e
    split at e
    · obtain ⟨zs, e3, e⟩ := Option.map_eq_some_iff.mp e
      subst e
      rw [List.length_cons, List.length_cons, mapD_length e3]
    · cases e
def Own (t : Tg) (ix : List (Option Nat)) : Prop := ∀ j ∈ t.slots, ix.getD j (some 0) = none
theorem comp_run {K : PySem.W.Frag} {src : IF} {t : Tg} {ix : List (Option Nat)} {f : EF} (inj : Inj ix) (own : Own t ix) {σ : L2.St} {H : Hp} {Q : VK} (h : tD K (fComp src t ix f) σ H Q) : tComp (tI K src) (tGD K t) (tD K (fz f)) ix σ H Q := by
  obtain ⟨B, G0, G, δ, r, S, e, k⟩ := h
  obtain ⟨ds, eds, e⟩ := Option.bind_eq_some_iff.mp e
  by_cases hlen : ds.length ≤ sizeLine
  case neg => rw [if_neg hlen] at e; cases e
  rw [if_pos hlen] at e
  obtain ⟨ys, eys, e⟩ := Option.map_eq_some_iff.mp e
  subst e
  have lys := mapD_length eys
  refine ⟨B, G0, G, δ, ds, S, eds, fun J G1 H1 S1 g1 jd D hD => ?_⟩
  have k1 := KD.step ⟨S, k⟩ S1 g1
  refine ⟨fun i m H2 => m = ds.length - i ∧ i ≤ ds.length ∧ ∃ G2 vs zs, Gr G1 H1 G2 H2 ∧ Same G2 H2 ∧ H2 D = some (.lst vs) ∧ G2 D = none ∧ Reps K G2 zs vs ∧ mapD t f (subS ix δ) (ds.drop i) = some (ys.drop i) ∧ zs = ys.take i, ⟨ds.length, by simp, Nat.zero_le _, G1, [], [], ⟨Same.refl G1, Same.upd_new hD, fun _ _ => rfl⟩, S1.gh.trans (Same.upd_new hD), upd_same, S1.g_free hD, Reps.nil, eys, by simp⟩, ?_⟩
  rintro i m H2 ⟨rfl, hi, G2, vs, zs, g2, gh2, e2, e3, rr, em, rfl⟩
  obtain ⟨jg, js⟩ := jd i H2 G2 g2.gg gh2
  have S2 : Sim K B G0 G2 δ σ H2 := S1.ext g2 gh2
  by_cases hlt : i < ds.length
  · have hd : ds[i]? = some ds[i] := List.getElem?_eq_getElem hlt
    obtain ⟨go, yl⟩ := jg _ hd
    rw [List.drop_eq_getElem_cons hlt] at em
    obtain ⟨δ3, e4, em⟩ := Option.bind_eq_some_iff.mp (show ((setT t ds[i] (subS ix δ)).bind fun δ1 => (fz f δ1).bind fun y => if y.isSh then (mapD t f (subS ix δ) (ds.drop (i + 1))).map fun ys => y.dat :: ys else none) = some (ys.drop i) from em)
    obtain ⟨y, e5, em⟩ := Option.bind_eq_some_iff.mp em
    by_cases hsh : y.isSh = true
    case neg => rw [if_neg hsh] at em; cases em
    rw [if_pos hsh] at em
    obtain ⟨ws, ews, em⟩ := Option.map_eq_some_iff.mp em
    have hyl : i < ys.length := by rw [lys]; exact hlt
    rw [List.drop_eq_getElem_cons hyl] at em
    have em1 : y.dat = ys[i] := by injection em
    have em2 : ws = ys.drop (i + 1) := by injection em
    refine .inr ⟨go, fun x H3 yx => ?_⟩
    obtain ⟨G3, g3, gh3, rx⟩ := yl x H3 yx
    have S3 := S2.ext g3 gh3
    refine ⟨B, G0, G3, subS ix δ, ds[i], δ3, S3.sub inj, rx, e4, fun σ4 S4 hk => ⟨fun j v hv => ?_, B, G0, G3, δ3, y, S4, e5, fun w G5 H5 S5 g5 q5 => ?_⟩⟩
    · rw [hk j fun hj => ?_]
      · exact hv
      · have := own j hj
        rw [sub_at] at hv
        obtain ⟨o, eo, hv⟩ := Option.map_eq_some_iff.mp hv
        rw [List.getD_eq_getElem?_getD, eo] at this
        have this' : o = none := this
        subst this'
        cases hv
    · have gg := g3.trans g5
      cases y with
      | ow _ => exact absurd (show false = true from hsh) Bool.false_ne_true
      | al _ _ => exact absurd (show false = true from hsh) Bool.false_ne_true
      | ft _ _ => exact absurd (show false = true from hsh) Bool.false_ne_true
      | sh dy =>
        have hq : Rep K G5 dy w := q5
        have eD : H5 D = some (.lst vs) := gg.hh _ _ e2
        have gD : G5 D = none := by rw [gg.nw D (by rw [e2]; simp)]; exact e3
        refine ⟨vs, eD, by rw [← rr.length, List.length_take]; omega, ds.length - (i + 1), by omega, rfl, hlt, G5, vs ++ [w], ys.take i ++ [dy], ⟨g2.gg.trans gg.gg, fun b u eb => ?_, fun b hb => ?_⟩, fun b u eb => ?_, upd_same, gD, (rr.mono gg.gg).append (Reps.cons hq Reps.nil), by rw [ews, em2], ?_⟩
        · rw [upd_ne (ne_of_none eb hD)]; exact gg.hh _ _ (g2.hh _ _ eb)
        · have hb2 : H2 b ≠ none := by
            cases q : H1 b with
            | none => exact absurd q hb
            | some o => rw [g2.hh b o q]; simp
          rw [gg.nw b hb2, g2.nw b hb]
        · rw [upd_ne (ne_of_none eb gD)]; exact S5.gh _ _ eb
        · have z : dy = ys[i] := em1
          rw [z, List.take_add_one, List.getElem?_eq_getElem hyl]; rfl
      | od ks ds => exact absurd (show false = true from hsh) Bool.false_ne_true
  · have hi' : i = ds.length := Nat.le_antisymm hi (Nat.not_lt.mp hlt)
    subst hi'
    refine .inl ⟨js (Nat.le_refl _), ?_⟩
    refine k1.out _ G2 H2 S2 g2 ⟨D, vs, rfl, e2, e3, hD, ?_⟩
    rw [← lys, List.take_length] at rr
    exact rr
theorem pd_comp {elt iter tg : Expr} {scope : Scope} {pos : Pos} {src : IF} {t : Tg} {f : EF} {N' : List Str} {ix : List (Option Nat)} (hc : X.calm = true) (ck : CompOk X.N X.env.scope scope N' ix) (inj : Inj ix) (own : Own t ix) (hi : PID X tg iter src)
    (hg : ∀ C s H fp, PGD (Xc X scope C s H fp N' XF) tg t) (he : ∀ C s H fp, PD (Xc X scope C s H fp N' XF) elt f) (hs : ∀ x, foldedSetIterable iter X.env x = pure x := by intro _; rfl) : PD X (.ListComp elt [⟨tg, iter, [], 0⟩] scope pos) (fComp src t ix f) :=
  PE.imp (pe_comp (g := tGD X.K t) (te := tD X.K (fz f)) hc ck hi hg (fun C s H fp => (he C s H fp).fz) hs) fun σ H Q h => comp_run inj own h
def bodyD (np nN : Nat) (g : SF) : FD := fun ds => if ds.length = np then (match g (ds.map Sl.sh ++ List.replicate (nN - np) Sl.un) with
  | some (.rt r) => some r
  | some (.nx _) => some (.sh .non)
  | _ => none) else none
theorem sim_start {K : PySem.W.Frag} {G H : Hp} {ds : List Dm} {vs : List V} {N : List Str} (g : Same G H) (r : Reps K G ds vs) : Sim K H G G (ds.map Sl.sh ++ List.replicate (N.length - ds.length) Sl.un) (L2.start N vs) H := by
  have hl := r.length
  refine ⟨?_, Same.refl H, Same.refl G, g, fun _ _ => rfl, fun i s h => ?_, fun i j es fs p _ h => ?_⟩
  · unfold L2.start
    simp [hl]
  · by_cases hi : i < ds.length
    · rw [List.getElem?_append_left (by simpa using hi), List.getElem?_map, List.getElem?_eq_getElem hi] at h
      cases h
      obtain ⟨v, ev, rv⟩ := r.get (List.getElem?_eq_getElem hi)
      refine ⟨v, ?_, rv⟩
      unfold L2.start
      rw [List.getElem?_append_left (by simp; omega), List.getElem?_map, ev]; rfl
    · rw [List.getElem?_append_right (by simpa using hi)] at h
      rw [List.getElem?_replicate] at h
      split at h
      · cases h; trivial
      · cases h
  · exfalso
    by_cases hi : i < ds.length
    · rw [List.getElem?_append_left (by simpa using hi), List.getElem?_map, List.getElem?_eq_getElem hi] at h
      cases h
    · rw [List.getElem?_append_right (by simpa using hi), List.getElem?_replicate] at h
      split at h
      · cases h
      · cases h
theorem fnD {P : Program} {w : World} {K : PySem.W.Frag} {mg : Str → Option Value} {base : Heap} {x qual : Str} {st : Stmt} {f : Addr} {fd : FuncData} {N ps : List Str} {k : Nat} {g : SF} (F : Fun K x qual st f fd) (S : FnScope N ps (defScope st))
    (hb : ∀ (cdv : Value) (A : Around) (outer : List Env) (s : Shared) (H : Hp) (E : XK), Room k (A.deeper (PyProof.Rows.envOfC qual (defScope st) s.heap.objs.size f cdv)) → PSsD (cxOf CX0 P w K mg base N qual (defScope st) f cdv A outer s H E).nox (defBody st) g) :
    FnOk P w K mg base CX0 (k + 1) f fd ps (spD K (bodyD ps.length N.length g)) := by
  refine F.ok S (fun vs H Q E h => ?_) (fun cdv A outer s H vs Q E hr h => ⟨_, hb cdv A outer s H E hr, ?_⟩)
  · obtain ⟨G, ds, r, _, rr, e, _⟩ := h
    unfold bodyD at e
    split at e
    · rename_i hl; rw [← rr.length, hl]
    · cases e
  · obtain ⟨G, ds, r, sm, rr, e, k⟩ := h
    unfold bodyD at e
    split at e
    case isFalse => cases e
    rename_i hl
    have S0 := sim_start (N := N) sm rr
    rw [hl] at S0
    cases q : g (ds.map Sl.sh ++ List.replicate (N.length - ps.length) Sl.un) with
    | none => rw [q] at e; cases e
    | some fl =>
      rw [q] at e
      refine ⟨H, G, G, _, fl, S0, q, ?_⟩
      cases fl with
      | rt r' =>
        cases e
        exact fun δ' G' σ' H' v S' g' ret => k v G' H' S'.bh g' S'.gh S'.gb ret
      | nx δ' =>
        cases e
        exact fun G' σ' H' S' g' => k .non G' H' S'.bh g' S'.gh S'.gb (show Rep K G' .non .non from rep_scal (d := .non) rfl)
      | bk δ' => cases e
      | ct δ' => cases e
end
end BF
set_option Elab.async false
set_option linter.all false
set_option maxRecDepth 100000
set_option maxHeartbeats 4000000
namespace BF
open PySem PySem.Spec L2
def compOkB (N : List Str) (sc scope : Scope) (N' : List Str) (ix : List (Option Nat)) : Bool :=
  scope.names.all (fun y => decide (y.2 ≠ .cell) && (decide (y.2 ≠ .local) || decide (scope.names.lookup y.1 = some .local)) && (decide (y.2 ≠ .free) || decide (sc.names.lookup y.1 = some .cell) || decide (sc.names.lookup y.1 = some .free)))
    && decide (scope.kind = .function) && decide (N'.length = ix.length) && (N'.zip ix).all (fun p => match p.2 with | none => true | some i => decide (N[i]? = some p.1) && decide (scope.names.lookup p.1 ≠ some .local)) && decide N'.Nodup
theorem compOk_mk {N : List Str} {sc scope : Scope} {N' : List Str} {ix : List (Option Nat)} (h : compOkB N sc scope N' ix = true) : CompOk N sc scope N' ix := by
  unfold compOkB at h
  simp only [Bool.and_eq_true, List.all_eq_true, decide_eq_true_eq, Bool.or_eq_true] at h
  obtain ⟨⟨⟨⟨h1, h2⟩, h3⟩, h4⟩, h5⟩ := h
  refine ⟨fun y hy => (h1 y hy).1.1, h2, fun y hy e => ?_, fun y hy e => ?_, h3, fun p hp i e => ?_, h5⟩
  · rcases (h1 y hy).1.2 with z | z
    · exact absurd e z
    · exact z
  · rcases (h1 y hy).2 with (z | z) | z
    · exact absurd e z
    · exact .inl z
    · exact .inr z
  · have := h4 p hp
    rw [e] at this
    simp only [Bool.and_eq_true, decide_eq_true_eq] at this
    exact this
theorem nd_of {N : List Str} (h : decide N.Nodup = true) : N.Nodup := of_decide_eq_true h
theorem inj_of {ix : List (Option Nat)} (h : decide (Inj ix) = true) : Inj ix := of_decide_eq_true h
theorem own_of {t : Tg} {ix : List (Option Nat)} (h : (t.slots.all fun j => decide (ix.getD j (some 0) = none)) = true) : Own t ix := fun j hj => of_decide_eq_true (List.all_eq_true.mp h j hj)
structure Def1 (K : PySem.W.Frag) (mg : Str → Option Value) (x : Str) (st : Stmt) (f : Addr) (fd : FuncData) (ps : List Str) : Prop where
  fn : Fun K x x st f fd
  mg : mg x = some (.ref f)
  bi : Binds K fd ps []
theorem Def1.mk' {K : PySem.W.Frag} {h : Heap} {mg : Str → Option Value} {x : Str} {st : Stmt} {f : Addr} {ps : List Str} {oc : Value} {od an : Option Addr} {osl : Array (Option Value)} {kV doc pm cdv ct : Value} (X : K.In h) (G : h.Ns mainGlobals mg)
    (a : PySem.W.nsIn K mainGlobals x = some (some (.ref f))) (l : K.lookup f = some ⟨oc, od, .func (PySem.W.fnOf x x (defArgs st) (defBody st) (defScope st) .none kV doc pm an cdv ct), osl⟩) (c : PySem.W.codeIn K cdv x = true) (k : PySem.W.keepIn K (.ref f) = true)
    (b : ∀ (kV doc pm : Value) (an : Option Addr) (cdv ct : Value) (us : List Value), us.length = ps.length → bindArgs (PySem.W.fnOf x x (defArgs st) (defBody st) (defScope st) .none kV doc pm an cdv ct) ⟨us, []⟩ = pure (ps.zip us)) :
    Def1 K mg x st f (PySem.W.fnOf x x (defArgs st) (defBody st) (defScope st) .none kV doc pm an cdv ct) ps :=
  ⟨fun_mk l c k, PySem.W.mg_of X G a, (fun_mk (K := K) l c k).binds b⟩
end BF
namespace BFA
open PySem PySem.W PySem.Calls PyProof.Rows
theorem bits_of_lay {ns : List Int} (h : WData.layableAll [WData.list (ns.map WData.int)] = true) : ∀ n ∈ ns, Builtin.Int.intBits n ≤ 1048576 := fun n hn => by
  have h1 := layableW_arg h _ (List.mem_singleton_self _)
  have h2 := layableW_item h1 (WData.int n) (List.mem_map_of_mem hn)
  have h3 := (layableW_iff.mp h2).2.2
  exact h3
theorem attachB {l : OpenLaw} {n : Nat} {q : Program} {loose : List Str} {XP : (Str → Option Value) → Heap → Prop} {YP : World → Heap → Prop} {d : DefRec}
    (hn : l.most = some n) (hdf : d.params.defaults = [])
    (call : ∀ (w : World) (s₀ s₁ : Shared) (mg mb : Str → Option Value) (fa : Addr) (a : Addr) (vs : List Value) (ns : List Int),
      Ground q loose [] XP w s₀ mg mb s₁.heap → YP w s₁.heap → mg d.name = some (.ref fa) →
      s₁.heap.get? a = some { cls := .type "list", data := .seq vs.toArray } → IntsAre vs ns → ns.length ≤ n → (∀ n ∈ ns, Builtin.Int.intBits n ≤ 1048576) → s₁.gens = #[] →
      codeAny (model l.prog w) callerA (.call (.ref fa) ⟨[.ref a], []⟩) (fun r s' => r = .ok (.ret (.bool true)) ∧ OldK s₁.heap s'.heap ∧ s'.os = s₁.os ∧ AllBare s'.gens) s₁) :
    WalkO q loose XP YP l.row.toRowW d [] (fun f vs => PySem.call f vs) := by
  intro w s₀ s₁ mg mb G Y fa o pm cd doc dV kV ho hd hcd hD hmg hg args vals as hpre hlay hrd hwl hlo
  obtain rfl : dV = .none := Dflts.none hD hdf
  obtain rfl : kV = .none := Dflts.noKw hD
  obtain ⟨a, vs, ns, rfl, rfl, hobj, hints, hlen⟩ := Att.script_of hn hpre hwl
  refine enter_call (codeAny_mono (call w s₀ s₁ mg mb fa a vs ns G Y hmg hobj hints hlen (bits_of_lay hlay) hg) fun r s' hq => ?_)
  obtain ⟨rfl, h2, h3, h4⟩ := hq
  exact ⟨.inl ⟨.bool true, .bool true, [], rfl, fun _ => rfl, .bool true, Att.post_true l _, fun _ => ⟨List.Pairwise.nil, fun _ hm => (nomatch hm)⟩⟩, h2, h3, h4⟩
open BF L2
theorem reps_script {K : PySem.W.Frag} {G : Hp} : ∀ (ns : List Int), Reps K G (ns.map Dm.int) (ns.map V.int)
  | [] => Reps.nil
  | n :: ns => Reps.cons (by unfold Rep; rfl) (reps_script ns)
theorem walkD {l : OpenLaw} {k : Nat} {q : Program} {loose : List Str} {XP : (Str → Option Value) → Heap → Prop} {YP : World → Heap → Prop} {d : DefRec} {K : Params → PySem.W.Frag} {x : Str} {FL : FD}
    (hn : l.most = some 63) (hdf : d.params.defaults = []) (hr : Room k callerA) (hY : ∀ (w : World) (h : Heap), YP w h → (K w.params).In h)
    (F : ∀ (w : World) (mg : Str → Option Value) (fa : Addr) (h : Heap), (K w.params).In h → h.Ns mainGlobals mg → mg d.name = some (.ref fa) →
      ∃ fd : FuncData, (∀ (s : Shared) (u : Value), BindsTo s fd ⟨[u], []⟩ [(x, u)]) ∧ ∀ base : Heap, (K w.params).In base → base.Ns mainGlobals mg → FnOk l.prog w (K w.params) mg base CX0 k fa fd [x] (spD (K w.params) FL))
    (law : ∀ ns : List Int, ns.length ≤ 63 → (∀ n ∈ ns, Builtin.Int.intBits n ≤ 1048576) → FL [.lst (ns.map .int)] = some (.sh (.bl true))) :
    WalkO q loose XP YP l.row.toRowW d [] (fun f vs => PySem.call f vs) := by
  refine attachB hn hdf fun w s₀ s₁ mg mb fa a vs ns G Y hmg hobj hints hlen hbits hg => ?_
  have KX := hY w _ Y
  obtain ⟨fd, hb, hF⟩ := F w mg fa _ KX G.T.g hmg
  refine law_call KX G.T.g G.T.b G.T.builtins G.T.nolimit hg hobj hints (Nat.le_trans hlen (by rw [sizeLine_eq]; decide)) hr hF hb (fun H hO hS => ?_) fun H e s' z => z
  refine ⟨H, _, _, Same.refl H, Reps.cons ?_ Reps.nil, law ns hlen hbits, fun v G' H' _ _ _ _ ret => ?_⟩
  · unfold Rep
    exact ⟨a, _, rfl, hS, reps_script ns⟩
  · have ret' : Rep (K w.params) G' (.bl true) v := ret
    unfold Rep at ret'
    exact ret'
end BFA
namespace BF
open PySem PySem.Spec L2
theorem bo_len : bootBuiltins "len" = some (.builtin "len") := by decide +kernel
theorem bo_min : bootBuiltins "min" = some (.builtin "min") := by decide +kernel
theorem bo_max : bootBuiltins "max" = some (.builtin "max") := by decide +kernel
theorem bo_isinstance : bootBuiltins "isinstance" = some (.builtin "isinstance") := by decide +kernel
theorem bo_list : bootBuiltins "list" = some (.type "list") := by decide +kernel
theorem bo_tuple : bootBuiltins "tuple" = some (.type "tuple") := by decide +kernel
theorem bo_int : bootBuiltins "int" = some (.type "int") := by decide +kernel
theorem bo_bool : bootBuiltins "bool" = some (.type "bool") := by decide +kernel
theorem bo_str : bootBuiltins "str" = some (.type "str") := by decide +kernel
theorem bo_enumerate : bootBuiltins "enumerate" = some (.type "enumerate") := by decide +kernel
theorem psd_setCompF {X : Cx} {elt iter tg : Expr} {scope : Scope} {pos spos pos' : Pos} {src : IF} {t : Tg} {f : EF} {N' : List Str} {ix : List (Option Nat)} {i : Nat} {y : Str} (hc : X.calm = true) (ck : CompOk X.N X.env.scope scope N' ix) (inj : Inj ix) (own : Own t ix) (hi : PID X tg iter src)
    (hg : ∀ C s H fp, PGD (Xc X scope C s H fp N' XF) tg t) (he : ∀ C s H fp, PD (Xc X scope C s H fp N' XF) elt f) (hN : X.N.Nodup) (hiy : X.N[i]? = some y) (hy : Loc X.env.scope y)
    (hsw : swapsWith (.ListComp elt [⟨tg, iter, [], 0⟩] scope pos) (some (.Name y pos')) spos.line X.env = pure true := by rfl) (hs : ∀ x, foldedSetIterable iter X.env x = pure x := by intro _; rfl) (hf : X.fn y = true ∨ X.env.scope.names.lookup y = some .local := by first | exact .inl rfl | exact .inr rfl | assumption) :
    PSD X (.Assign [.Name y pos'] (.ListComp elt [⟨tg, iter, [], 0⟩] scope pos) spos) (gSet i (fz (fComp src t ix f))) := by
  refine PS.imp (ps_setComp (g := tGD X.K t) (te := tD X.K (fz f)) hc ck hi hg (fun C s H fp => (he C s H fp).fz) hN hiy hy hsw hs hf) fun D σ H h => ?_
  exact comp_run inj own (tD_fz (set_run h))
end BF
set_option Elab.async false
set_option linter.all false
set_option maxRecDepth 100000
set_option maxHeartbeats 4000000
namespace BF
open PySem L2
@[simp] theorem mulOk_left {a b : Int} (h1 : -(2 ^ 64) < a) (h2 : a < 2 ^ 64) : mulOk a b = true := by
  exact okB_of (IntMulOk.of_left (intBits_le_64 h1 h2))
@[simp] theorem mulOk_right {a b : Int} (h1 : -(2 ^ 64) < b) (h2 : b < 2 ^ 64) : mulOk a b = true := by
  exact okB_of (IntMulOk.of_right (intBits_le_64 h1 h2))
@[simp] theorem powOk_one {j : Int} (h1 : 0 ≤ j) (h2 : j ≤ 1000000) : powOk 1 j = true := okB_of ⟨h1, h2, by decide⟩
@[simp] theorem powOk_of {i j : Int} (h1 : 0 ≤ j) (h2 : j ≤ 1000000) (h3 : i.natAbs < 2 ^ 64) : powOk i j = true := okB_of ⟨h1, h2, h3⟩
theorem divOk_of {j : Int} (h1 : 0 < j) (h2 : j.natAbs.log2 < 9000) : divOk j = true := okB_of ⟨h1, h2⟩
@[simp] theorem divOk_small {j : Int} (h1 : 0 < j) (h2 : j < 2 ^ 64) : divOk j = true := by
  refine divOk_of h1 ?_
  have hn : j.natAbs < 2 ^ 64 := by omega
  have : j.natAbs.log2 < 64 := (Nat.log2_lt (by omega)).mpr hn
  omega
@[simp] theorem posOk_of {j : Int} (h1 : 0 < j) : posOk j = true := okB_of h1
@[simp] theorem nnOk_of {j : Int} (h1 : 0 ≤ j) : nnOk j = true := okB_of h1
theorem log2_pow (n : Nat) : ((2 : Int) ^ n).natAbs.log2 = n := by
  have e : ((2 : Int) ^ n).natAbs = 2 ^ n := by rw [Int.natAbs_pow]; rfl
  rw [e, Nat.log2_two_pow]
theorem divOk_pow {n : Nat} (h : n < 9000) : divOk (2 ^ n) = true := divOk_of (Int.pow_pos (by decide)) (by rw [log2_pow]; exact h)
theorem pow2_pos (n : Nat) : (0 : Int) < 2 ^ n := Int.pow_pos (by decide)
@[simp] theorem oI_int {C : Int → Int → Bool} {g : Int → Int → Dm} {i j : Int} : oI C g (.int i) (.int j) = if C i j = true then some (g i j) else none := rfl
@[simp] theorem int?_int {i : Int} : (Dm.int i).int? = some i := rfl
@[simp] theorem bl?_bl {b : Bool} : (Dm.bl b).bl? = some b := rfl
@[simp] theorem lst?_lst {ds : List Dm} : (Dm.lst ds).lst? = some ds := rfl
@[simp] theorem dat_sh {d : Dm} : (Rs.sh d).dat = d := rfl
@[simp] theorem dat_ow {d : List Dm} : (Rs.ow d).dat = .lst d := rfl
@[simp] theorem dat_al {i : Nat} {d : List Dm} : (Rs.al i d).dat = .lst d := rfl
@[simp] theorem fz_sh {d : Dm} : (Rs.sh d).fz = .sh d := rfl
@[simp] theorem fz_ow {d : List Dm} : (Rs.ow d).fz = .sh (.lst d) := rfl
@[simp] theorem fz_al {i : Nat} {d : List Dm} : (Rs.al i d).fz = .al i d := rfl
@[simp] theorem out_sh {d : Dm} : (Rs.sh d).out = .sh d := rfl
@[simp] theorem out_ow {d : List Dm} : (Rs.ow d).out = .ow d := rfl
@[simp] theorem out_al {i : Nat} {d : List Dm} : (Rs.al i d).out = .ow d := rfl
@[simp] theorem sl_sh {d : Dm} : (Rs.sh d).sl = some (.sh d) := rfl
@[simp] theorem sl_ow {d : List Dm} : (Rs.ow d).sl = some (.ow d) := rfl
@[simp] theorem isSh_sh {d : Dm} : (Rs.sh d).isSh = true := rfl
@[simp] theorem isSh_al {i : Nat} {d : List Dm} : (Rs.al i d).isSh = false := rfl
@[simp] theorem scal_sh {d : Dm} : (Rs.sh d).scal = d.scal := rfl
@[simp] theorem dscal_int {i : Int} : (Dm.int i).scal = true := rfl
@[simp] theorem dscal_bl {b : Bool} : (Dm.bl b).scal = true := rfl
theorem seq_nx {g1 g2 : SF} {δ δ' : List Sl} {fl : Fl} (h1 : g1 δ = some (.nx δ')) (h2 : g2 δ' = some fl) : gSeq g1 g2 δ = some fl := by unfold gSeq; rw [h1]; exact h2
theorem seq_rt {g1 g2 : SF} {δ : List Sl} {r : Rs} (h1 : g1 δ = some (.rt r)) : gSeq g1 g2 δ = some (.rt r) := by unfold gSeq; rw [h1]; rfl
theorem if_t {c : BF'} {g1 g2 : SF} {δ : List Sl} {fl : Fl} (h : c δ = some true) (h1 : g1 δ = some fl) : gIf c g1 g2 δ = some fl := by unfold gIf; rw [h]; exact h1
theorem if_f {c : BF'} {g1 g2 : SF} {δ : List Sl} {fl : Fl} (h : c δ = some false) (h1 : g2 δ = some fl) : gIf c g1 g2 δ = some fl := by unfold gIf; rw [h]; exact h1
theorem nil_nx {δ : List Sl} : BF.gNil δ = some (.nx δ) := rfl
theorem set_sh {i : Nat} {f : EF} {δ : List Sl} {d : Dm} (h : f δ = some (.sh d)) : gSet i f δ = some (.nx (δ.set i (.sh d))) := by unfold gSet; rw [h]; rfl
theorem set_ow {i : Nat} {f : EF} {δ : List Sl} {d : List Dm} (h : f δ = some (.ow d)) : gSet i f δ = some (.nx (δ.set i (.ow d))) := by unfold gSet; rw [h]; rfl
theorem set_fz {i : Nat} {f : EF} {δ : List Sl} {r : Rs} (h : f δ = some r) (hs : r.fz = .sh r.dat) : gSet i (fz f) δ = some (.nx (δ.set i (.sh r.dat))) := by unfold gSet fz; rw [h]; show (some r.fz).bind _ = _; rw [hs]; rfl
theorem ret_of {f : EF} {δ : List Sl} {r : Rs} (h : f δ = some r) : gRet f δ = some (.rt r.out) := by unfold gRet; rw [h]; rfl
theorem body_rt {np nN : Nat} {g : SF} {ds : List Dm} {δ : List Sl} {r : Rs} (hl : ds.length = np) (hδ : ds.map Sl.sh ++ List.replicate (nN - np) Sl.un = δ) (h : g δ = some (.rt r)) : bodyD np nN g ds = some r := by
  unfold bodyD
  rw [if_pos hl, hδ, h]
theorem for_of {src : IF} {t : Tg} {b : SF} {δ : List Sl} {ds : List Dm} {fl : Fl} (h : src δ = some ds) (h2 : loopD t b ds δ = some fl) : gFor src t b δ = some fl := by unfold gFor; rw [h]; exact h2
theorem call_of {F : FD} {fs : List EF} {δ : List Sl} {rs : List Rs} {r : Rs} (h1 : evs fs δ = some rs) (h2 : F (rs.map Rs.dat) = some r) (h3 : (rs.all Rs.isSh || r.scal) = true) : fCall F fs δ = some r := by unfold fCall; rw [h1]; show ((F (rs.map Rs.dat)).bind _) = _; rw [h2]; show (if _ then _ else _) = _; rw [if_pos h3]
theorem app_of {i : Nat} {f : EF} {δ : List Sl} {ds : List Dm} {r : Rs} (h1 : δ[i]? = some (.ow ds)) (h2 : f δ = some r) (h3 : r.fz.isSh = true) (h4 : ds.length < sizeLine) : gApp i f δ = some (.nx (δ.set i (.ow (ds ++ [r.dat])))) := by
  unfold gApp own?
  rw [h1]
  show (fz f δ).bind _ = _
  rw [fz_some h2]
  show (if _ then _ else _) = _
  rw [if_pos (by rw [h3, decide_eq_true h4]; rfl), Rs.fz_dat]
theorem loop_nil {t : Tg} {b : SF} {δ : List Sl} : loopD t b [] δ = some (.nx δ) := rfl
theorem loop_cons {t : Tg} {b : SF} {d : Dm} {r : List Dm} {δ δ1 δ2 : List Sl} {fl : Fl} (h1 : setT t d δ = some δ1) (h2 : b δ1 = some (.nx δ2)) (h3 : loopD t b r δ2 = some fl) : loopD t b (d :: r) δ = some fl := by
  unfold loopD; rw [h1]; show (b δ1).bind _ = _; rw [h2]; exact h3
theorem comp_of {src : IF} {t : Tg} {ix : List (Option Nat)} {f : EF} {δ : List Sl} {ds ys : List Dm} (h1 : src δ = some ds) (h2 : ds.length ≤ sizeLine) (h3 : mapD t f (subS ix δ) ds = some ys) : fComp src t ix f δ = some (.ow ys) := by
  unfold fComp; rw [h1]; show (if _ then _ else _) = _; rw [if_pos h2, h3]; rfl
theorem cut_from (xs : List Dm) (k : Nat) : cutD xs (some (k : Int)) none = xs.drop k := by
  unfold cutD
  rw [HT.sIx_none, HT.sIx_nat]
  rcases Nat.le_total k xs.length with h | h
  · rw [Nat.min_eq_left h, List.take_of_length_le (by rw [List.length_drop]; exact Nat.le_refl _)]
  · rw [Nat.min_eq_right h, Nat.sub_self, List.take_zero, List.drop_eq_nil_of_le h]
theorem cut_mid (xs : List Dm) (a b : Nat) (hab : a ≤ b) : cutD xs (some (a : Int)) (some (b : Int)) = (xs.drop a).take (b - a) := by
  unfold cutD
  rw [HT.sIx_nat, HT.sIx_nat]
  rcases Nat.le_total b xs.length with h | h
  · rw [Nat.min_eq_left h, Nat.min_eq_left (by omega)]
  · rcases Nat.le_total a xs.length with h2 | h2
    · rw [Nat.min_eq_right h, Nat.min_eq_left h2, List.take_of_length_le (by rw [List.length_drop]; exact Nat.le_refl _), List.take_of_length_le (by rw [List.length_drop]; omega)]
    · rw [Nat.min_eq_right h, Nat.min_eq_right h2, Nat.sub_self, List.take_zero, List.drop_eq_nil_of_le h2, List.take_nil]
def enumFrom : Nat → List Dm → List Dm
  | _, [] => []
  | j, d :: r => .tup [.int (j : Int), d] :: enumFrom (j + 1) r
theorem enumFrom_get : ∀ (xs : List Dm) (j i : Nat), (enumFrom j xs)[i]? = xs[i]?.map fun d => .tup [.int ((j + i : Nat) : Int), d]
  | [], j, i => by simp [enumFrom]
  | d :: r, j, 0 => by simp [enumFrom]
  | d :: r, j, i + 1 => by
    show (enumFrom (j + 1) r)[i]? = _
    rw [enumFrom_get r (j + 1) i, List.getElem?_cons_succ, show j + 1 + i = j + (i + 1) by omega]
theorem enumD_from (xs : List Dm) : enumD xs = enumFrom 0 xs := by
  refine List.ext_getElem? fun i => ?_
  rw [enumFrom_get]
  unfold enumD
  rw [List.getElem?_map]
  by_cases h : i < xs.length
  · rw [List.getElem?_eq_getElem (by simpa using h), List.getElem?_eq_getElem h]
    simp [h]
  · rw [List.getElem?_eq_none (by simpa using h), List.getElem?_eq_none (by omega)]
    rfl
theorem band_nat (a b : Nat) : Builtin.bitAnd (a : Int) (b : Int) = ((a &&& b : Nat) : Int) := by
  unfold Builtin.bitAnd
  rw [decide_eq_true (Int.natCast_nonneg a), decide_eq_true (Int.natCast_nonneg b)]
  simp
theorem xor_add_and : ∀ x y : Nat, (x ^^^ y) + 2 * (x &&& y) = x + y := by
  intro x
  induction x using Nat.strongRecOn with
  | _ x ih =>
    intro y
    by_cases hx : x = 0
    · subst hx; simp
    · have h1 := ih (x / 2) (by omega) (y / 2)
      have e1 : (x ^^^ y) / 2 = x / 2 ^^^ y / 2 := Nat.xor_div_two
      have e2 : (x &&& y) / 2 = x / 2 &&& y / 2 := Nat.and_div_two
      have e3 : (x ^^^ y) % 2 = (x + y) % 2 := by
        have q := Nat.xor_mod_two_eq_one (a := x) (b := y)
        omega
      have e4 : (x &&& y) % 2 = x % 2 * (y % 2) := by
        have q := Nat.and_mod_two_eq_one (a := x) (b := y)
        rcases Nat.mod_two_eq_zero_or_one x with a | a <;> rcases Nat.mod_two_eq_zero_or_one y with b | b <;> rw [a, b] at q ⊢ <;> omega
      have d1 := Nat.div_add_mod (x ^^^ y) 2
      have d2 := Nat.div_add_mod (x &&& y) 2
      have d3 := Nat.div_add_mod x 2
      have d4 := Nat.div_add_mod y 2
      rw [e1, e3] at d1
      rw [e2, e4] at d2
      rcases Nat.mod_two_eq_zero_or_one x with a | a <;> rcases Nat.mod_two_eq_zero_or_one y with b | b <;> rw [a, b] at d2 <;> omega
theorem bxor_nat (a b : Nat) : Builtin.bitXor (a : Int) (b : Int) = ((a ^^^ b : Nat) : Int) := by
  have h := xor_add_and a b
  rw [PyProof.Rows.bitXor_and, band_nat]
  omega
theorem band_mask (x : Int) (w : Nat) : Builtin.bitAnd x (2 ^ w - 1) = x % 2 ^ w := PySem.W.kbt_mask x w
theorem mapD_map {α : Type} {t : Tg} {f : EF} {δ : List Sl} (e h : α → Dm) : ∀ {l : List α}, (∀ a ∈ l, ∃ δ1, setT t (e a) δ = some δ1 ∧ ∃ r, f δ1 = some r ∧ r.fz = .sh (h a)) → mapD t f δ (l.map e) = some (l.map h)
  | [], _ => rfl
  | a :: l, H => by
    obtain ⟨δ1, e1, r, e2, e3⟩ := H a List.mem_cons_self
    rw [List.map_cons]
    unfold mapD
    rw [e1]
    show (fz f δ1).bind _ = _
    rw [fz_some e2, e3]
    show (if (Rs.sh (h a)).isSh = true then Option.map (fun ys => h a :: ys) (mapD t f δ (l.map e)) else none) = _
    rw [isSh_sh, if_pos rfl, mapD_map e h fun x hx => H x (List.mem_cons_of_mem _ hx)]
    rfl
theorem mapD_rng {i : Nat} {f : EF} {δ : List Sl} {n : Nat} (h : Nat → Dm) (H : ∀ k, k < n → ∃ r, f (δ.set i (.sh (.int (k : Int)))) = some r ∧ r.fz = .sh (h k)) : mapD (.nm i) f δ (rng 0 n) = some ((List.range n).map h) := by
  unfold rng
  refine mapD_map _ h fun k hk => ⟨_, rfl, ?_⟩
  rw [Int.zero_add]
  exact H k (List.mem_range.mp hk)
theorem dt_of {f : EF} {δ : List Sl} {r : Rs} {d : Dm} (h : f δ = some r) (e : r.dat = d := by rfl) : dt f δ = some d := by unfold dt; rw [h, ← e]; rfl
theorem op2_of {o : Dm → Dm → Option Dm} {fa fb : EF} {δ : List Sl} {a b d : Dm} (h1 : dt fa δ = some a) (h2 : dt fb δ = some b) (h3 : o a b = some d) : op2 o fa fb δ = some (.sh d) := by unfold op2; rw [h1, Option.bind_some, h2, Option.bind_some, h3]; rfl
theorem fB_of {o : List Dm → Option Dm} {fs : List EF} {δ : List Sl} {rs : List Rs} {d : Dm} (h1 : evs fs δ = some rs) (h2 : o (rs.map Rs.dat) = some d) : fB o fs δ = some (.sh d) := by unfold fB; rw [h1, Option.bind_some, h2]; rfl
theorem evs_nil {δ : List Sl} : evs [] δ = some [] := rfl
theorem evs_cons {f : EF} {fs : List EF} {δ : List Sl} {r : Rs} {rs : List Rs} (h1 : f δ = some r) (h2 : evs fs δ = some rs) : evs (f :: fs) δ = some (r.fz :: rs) := by show (f δ).bind _ = _; rw [h1, Option.bind_some, h2]; rfl
theorem ix_of {fa fb : EF} {δ : List Sl} {a d : Dm} {i : Int} (h1 : dt fa δ = some a) (h2 : dt fb δ = some (.int i)) (h3 : ixD a i = some d) : fIx fa fb δ = some (.sh d) := by unfold fIx; rw [h1, Option.bind_some, h2, Option.bind_some, int?_int, Option.bind_some, h3]; rfl
theorem bB_of {f : EF} {δ : List Sl} {b : Bool} (h : dt f δ = some (.bl b)) : bB f δ = some b := by unfold bB; rw [h]; rfl
theorem iR_of {f : EF} {δ : List Sl} {n : Nat} (h : dt f δ = some (.int (n : Int))) (hn : okR (n : Int) = true) : iR f δ = some (rng 0 n) := by
  unfold iR
  rw [h, Option.bind_some, int?_int, Option.bind_some, if_pos hn, Int.toNat_natCast]
theorem okR_nat {n : Nat} (h : n ≤ 1000000) : okR (n : Int) = true := okB_of ⟨by omega, by omega⟩
theorem cat_of {fa fb : EF} {δ : List Sl} {xs ys : List Dm} (h1 : dt fa δ = some (.lst xs)) (h2 : dt fb δ = some (.lst ys)) (h3 : xs.length + ys.length ≤ sizeLine) : fCat fa fb δ = some (.ow (xs ++ ys)) := by
  unfold fCat; rw [h1, Option.bind_some, h2, Option.bind_some, lst?_lst, Option.bind_some, lst?_lst, Option.bind_some, if_pos h3]
theorem sl_of {fa : EF} {lo hi : OF} {δ : List Sl} {xs : List Dm} {l u : Option Int} (h1 : dt fa δ = some (.lst xs)) (h2 : lo δ = some l) (h3 : hi δ = some u) : fSl fa lo hi δ = some (.ow (cutD xs l u)) := by
  unfold fSl; rw [h1, Option.bind_some, h2, Option.bind_some, h3, Option.bind_some]; rfl
theorem lst_of {fs : List EF} {δ : List Sl} {rs : List Rs} (h1 : evs fs δ = some rs) (h2 : rs.all Rs.isSh = true) (h3 : rs.length ≤ sizeLine) : fLst fs δ = some (.ow (rs.map Rs.dat)) := by
  unfold fLst; rw [h1, Option.bind_some, if_pos (by rw [h2, decide_eq_true h3]; rfl)]
theorem tup_of {fs : List EF} {δ : List Sl} {rs : List Rs} (h1 : evs fs δ = some rs) (h2 : rs.all Rs.isSh = true) (h3 : rs.length ≤ sizeLine) : fTup fs δ = some (.sh (.tup (rs.map Rs.dat))) := by
  unfold fTup; rw [h1, Option.bind_some, if_pos (by rw [h2, decide_eq_true h3]; rfl)]
mutual
theorem eqv_refl : ∀ d : Dm, (toPy d).canLay0 = true → PyData.eqv (toPy d) (toPy d) = true
  | .non, _ => by simp [toPy, PyData.eqv]
  | .bl b, _ => by simp [toPy, PyData.eqv]
  | .int i, _ => by simp [toPy, PyData.eqv]
  | .str x, _ => by simp [toPy, PyData.eqv]
  | .lst ds, h => by simp only [toPy, PyData.eqv]; exact eqvs_refl ds (by simpa [toPy, PyData.canLay0] using h)
  | .tup ds, h => by simp only [toPy, PyData.eqv]; exact eqvs_refl ds (by simpa [toPy, PyData.canLay0] using h)
  | .dct _ _, h => by simp [toPy, PyData.canLay0] at h
theorem eqvs_refl : ∀ ds : List Dm, PyData.canLayAll0 (toPys ds) = true → PyData.eqvAll (toPys ds) (toPys ds) = true
  | [], _ => by simp [toPys, PyData.eqvAll]
  | d :: ds, h => by
    have h' : (toPy d).canLay0 = true ∧ PyData.canLayAll0 (toPys ds) = true := by simpa [toPys, PyData.canLayAll0] using h
    simp only [toPys, PyData.eqvAll, Bool.and_eq_true]; exact ⟨eqv_refl d h'.1, eqvs_refl ds h'.2⟩
end
theorem okEq_lst {ds : List Dm} (h : ∀ d ∈ ds, (toPy d).canLay0 = true ∧ (toPy d).depth ≤ 60) : okEq (.lst ds) = true := by
  have key : ∀ {ds : List Dm}, (∀ d ∈ ds, (toPy d).canLay0 = true ∧ (toPy d).depth ≤ 60) → PyData.canLayAll0 (toPys ds) = true ∧ PyData.depthAll (toPys ds) ≤ 60 := by
    intro ds
    induction ds with
    | nil => intro _; simp [toPys, PyData.canLayAll0, PyData.depthAll]
    | cons d ds ih =>
      intro h
      obtain ⟨a, b⟩ := ih fun x hx => h x (List.mem_cons_of_mem _ hx)
      obtain ⟨c, e⟩ := h d List.mem_cons_self
      simp only [toPys, PyData.canLayAll0, PyData.depthAll, Bool.and_eq_true]
      exact ⟨⟨c, a⟩, by omega⟩
  obtain ⟨a, b⟩ := key h
  simp only [okEq, toPy, PySem.SeqAt.shaped, PyData.canLay0, PyData.depth, Bool.and_eq_true, decide_eq_true_eq]
  exact ⟨a, by omega⟩
theorem loop_stay {i : Nat} {b : SF} {δ : List Sl} : ∀ (ds : List Dm) (s : Sl), (∀ d ∈ ds, b (δ.set i (.sh d)) = some (.nx (δ.set i (.sh d)))) → ∃ t, loopD (.nm i) b ds (δ.set i s) = some (.nx (δ.set i t))
  | [], s, _ => ⟨s, rfl⟩
  | d :: ds, s, h => by
    obtain ⟨t, e⟩ := loop_stay ds (.sh d) fun x hx => h x (List.mem_cons_of_mem _ hx)
    exact ⟨t, loop_cons (δ1 := δ.set i (.sh d)) (by show some ((δ.set i s).set i (.sh d)) = _; rw [List.set_set]) (h d List.mem_cons_self) e⟩
theorem not_of {f : BF'} {δ : List Sl} {b : Bool} (h : f δ = some b) : bNot f δ = some (!b) := by unfold bNot; rw [h]; rfl
theorem or_f {f g : BF'} {δ : List Sl} {b : Bool} (h : f δ = some false) (h2 : g δ = some b) : bOr f g δ = some b := by unfold bOr; rw [h]; exact h2
theorem iL_of {f : EF} {δ : List Sl} {r : Rs} {ds : List Dm} (h : f δ = some r) (h2 : r.fz = .sh (.lst ds)) : iL f δ = some ds := by unfold iL; rw [fz_some h, Option.bind_some, h2]; rfl
theorem list_of {f : EF} {δ : List Sl} {ds : List Dm} (h : dt f δ = some (.lst ds)) : fList f δ = some (.ow ds) := by unfold fList; rw [h]; rfl
theorem neg_of {f : EF} {δ : List Sl} {i : Int} (h : dt f δ = some (.int i)) : fNeg f δ = some (.sh (.int (-i))) := by unfold fNeg; rw [h]; rfl
theorem not_t {f : BF'} {δ : List Sl} (h : f δ = some true) : bNot f δ = some false := not_of h
theorem line24 : sizeLine = 16777216 := sizeLine_eq
theorem rng_len (lo : Int) (n : Nat) : (rng lo n).length = n := by unfold rng; simp
end BF
set_option Elab.async false
set_option linter.all false
set_option maxRecDepth 100000
set_option maxHeartbeats 4000000
namespace BF
open PySem PySem.Spec PyProof.Rows L2
noncomputable section
variable {X : Cx}
theorem OpR.or {f : Value → Value → Sem Value} {r r' : R2} (h : OpR X f r) (h' : OpR X f r') : OpR X f (fun x y H Q => r x y H Q ∨ r' x y H Q) := by
  intro pins s σ H x y v u Q I rx ry q
  rcases q with q | q
  · exact h pins s σ H x y v u Q I rx ry q
  · exact h' pins s σ H x y v u Q I rx ry q
theorem PI.or {tg e : Expr} {t t' : TI} (h : PI X tg e t) (h' : PI X tg e t') : PI X tg e (fun σ H R => t σ H R ∨ t' σ H R) := fun pins s σ H R I q => q.elim (h pins s σ H R I) (h' pins s σ H R I)
theorem rep_v {K : PySem.W.Frag} {G : Hp} {d : Dm} {v : V} (h : Rep K G d v) (s : d.scal = true) : v = vOf d := by
  cases d with
  | lst ds => exact absurd (show false = true from s) Bool.false_ne_true
  | tup ds => exact absurd (show false = true from s) Bool.false_ne_true
  | dct ks ds => exact absurd (show false = true from s) Bool.false_ne_true
  | _ => unfold Rep at h; exact h
theorem reps_v {K : PySem.W.Frag} {G : Hp} : ∀ {ds : List Dm} {xs : List V}, Reps K G ds xs → ds.all Dm.scal = true → xs = ds.map vOf
  | [], xs, h, _ => by unfold Reps at h; exact h
  | d :: ds, xs, h, a => by
    unfold Reps at h
    obtain ⟨v, r, e, q, t⟩ := h
    rw [List.all_cons, Bool.and_eq_true] at a
    rw [e, rep_v q a.1, reps_v t a.2]; rfl
theorem flat_v {d : Dm} (h : d.scal = true) : flatV (vOf d) = true := by
  cases d with
  | lst ds => exact absurd (show false = true from h) Bool.false_ne_true
  | tup ds => exact absurd (show false = true from h) Bool.false_ne_true
  | _ => rfl
theorem flat_vs : ∀ {ds : List Dm}, ds.all Dm.scal = true → (ds.map vOf).all flatV = true
  | [], _ => rfl
  | d :: ds, h => by
    rw [List.all_cons, Bool.and_eq_true] at h
    rw [List.map_cons, List.all_cons, flat_v h.1, flat_vs h.2]; rfl
def inD (a : Dm) (ds : List Dm) : Bool := inV (vOf a) (ds.map vOf)
def inS (i j : Str) : Bool := !(Builtin.Str.occurrences j i 0 j.length 1).isEmpty
def seqs? : Dm → Option (List Dm)
  | .lst ds => some ds
  | .tup ds => some ds
  | _ => none
def strs2? : Dm → Dm → Option (Str × Str)
  | .str i, .str j => some (i, j)
  | _, _ => none
theorem strs2_some {a b : Dm} {p : Str × Str} (e : strs2? a b = some p) : a = .str p.1 ∧ b = .str p.2 := by
  unfold strs2? at e
  split at e
  · cases e; exact ⟨rfl, rfl⟩
  · cases e
def oIn (neg : Bool) : Dm → Dm → Option Dm := fun a b => match strs2? a b with
  | some p => some (.bl (if neg then !inS p.1 p.2 else inS p.1 p.2))
  | none => (seqs? b).bind fun ds => if a.scal && ds.all Dm.scal then some (.bl (if neg then !inD a ds else inD a ds)) else none
def rIn2 (K : PySem.W.Frag) (neg : Bool) : R2 := fun x y H Q => rIn K neg x y H Q ∨ ∃ i j, x = .str i ∧ y = .str j ∧ Q (.bl (if neg then !(!(Builtin.Str.occurrences j i 0 j.length 1).isEmpty) else !(Builtin.Str.occurrences j i 0 j.length 1).isEmpty)) H
theorem op_in2 : OpR X (compareOp .In) (rIn2 X.K false) := OpR.or op_in_seq op_in_str
theorem op_notIn2 : OpR X (compareOp .NotIn) (rIn2 X.K true) := OpR.or op_notIn_seq op_notIn_str
theorem op2_in {K : PySem.W.Frag} (neg : Bool) : Op2 K (rIn2 K neg) (oIn neg) := by
  intro x y H a b d Q ra rb e
  unfold oIn at e
  cases hs : strs2? a b with
  | some p =>
    rw [hs] at e
    cases e
    obtain ⟨rfl, rfl⟩ := strs2_some hs
    unfold Rep at ra rb
    exact ⟨rfl, fun q => .inr ⟨_, _, ra, rb, q⟩⟩
  | none =>
    rw [hs] at e
    obtain ⟨ds, ed, e⟩ := Option.bind_eq_some_iff.mp e
    by_cases hc : (a.scal && ds.all Dm.scal) = true
    · rw [if_pos hc] at e
      cases e
      rw [Bool.and_eq_true] at hc
      refine ⟨rfl, fun q => .inl ?_⟩
      have ex := rep_v ra hc.1
      unfold seqs? at ed
      split at ed
      · cases ed
        unfold Rep at rb
        obtain ⟨p, xs, rfl, hq, rr⟩ := rb
        have exs := reps_v rr hc.2
        subst ex exs
        exact ⟨p, _, rfl, .inl hq, flat_v hc.1, flat_vs hc.2, q⟩
      · cases ed
        unfold Rep at rb
        obtain ⟨p, xs, rfl, hq, rr⟩ := rb
        have exs := reps_v rr hc.2
        subst ex exs
        exact ⟨p, _, rfl, .inr hq, flat_v hc.1, flat_vs hc.2, q⟩
      · cases ed
    · rw [if_neg hc] at e; cases e
section
variable {a b : Expr} {pos : Pos} {fa fb : EF}
theorem pd_in (ha : PD X a fa) (hb : PD X b fb) (hm : behindInMarks .In b = false) : PD X (.Compare a [.In] [b] pos) (op2 (oIn false) fa fb) := pd_cmp op_in2 (op2_in false) ha hb hm
theorem pt_in (ha : PD X a fa) (hb : PD X b fb) (hm : behindInMarks .In b = false) : PTD X (.Compare a [.In] [b] pos) (bB (op2 (oIn false) fa fb)) := pt_c op_in2 (op2_in false) ha hb hm
theorem pt_nin (ha : PD X a fa) (hb : PD X b fb) (hm : behindInMarks .NotIn b = false) : PTD X (.Compare a [.NotIn] [b] pos) (bB (op2 (oIn true) fa fb)) := pt_c op_notIn2 (op2_in true) ha hb hm
end
section
variable {a b : Expr} {pos : Pos} {fa fb : EF}
end
def oMax : List Dm → Option Dm
  | [.int i, .int j] => some (.int (if j > i then j else i))
  | _ => none
theorem cs_max {K : PySem.W.Frag} : CallS K (fun xs H Q => ∃ i j, xs = [.int i, .int j] ∧ Q (.int (if j > i then j else i)) H) oMax := by
  intro vs H ds d Q h e
  unfold oMax at e
  split at e
  · cases e
    obtain ⟨v, u, rfl, q, q'⟩ := reps2 h
    unfold Rep at q q'
    subst q q'
    exact ⟨rfl, fun k => ⟨_, _, rfl, k⟩⟩
  · cases e
def bls? : List Dm → Option (List Bool)
  | [] => some []
  | d :: ds => d.bl?.bind fun i => (bls? ds).map fun r => i :: r
theorem bls_some : ∀ {ds : List Dm} {ns : List Bool}, bls? ds = some ns → ds = ns.map .bl
  | [], ns, e => by cases e; rfl
  | d :: ds, ns, e => by
    obtain ⟨i, ei, e⟩ := Option.bind_eq_some_iff.mp (show (d.bl?.bind fun i => (bls? ds).map fun r => i :: r) = some ns from e)
    obtain ⟨r, er, e⟩ := Option.map_eq_some_iff.mp e
    subst e
    rw [bl_some ei, bls_some er]; rfl
theorem reps_bls {K : PySem.W.Frag} {H : Hp} : ∀ {ns : List Bool} {xs : List V}, Reps K H (ns.map .bl) xs → xs = ns.map .bl
  | [], xs, h => by unfold List.map Reps at h; exact h
  | n :: ns, xs, h => by
    unfold List.map Reps at h
    obtain ⟨v, r, e, q, t⟩ := h
    unfold Rep at q
    rw [e, q, reps_bls t]; rfl
theorem vals_bls : ∀ {bs : List Bool} {us : List Value}, Vals (bs.map V.bl) us → us = bs.map Value.bool
  | [], us, h => by cases h; rfl
  | b :: bs, us, h => by
    cases h with
    | cons r t => rw [vals_bls t]; cases r; rfl
theorem all_range (bs : List Bool) : (List.range bs.length).all (fun i => bs.getD i false) = bs.all id := by
  induction bs with
  | nil => rfl
  | cons b bs ih =>
    rw [List.length_cons, List.range_succ_eq_map, List.all_cons, List.all_map, List.all_cons, ← ih]
    rfl
def rAll (K : PySem.W.Frag) (f : List Bool → Bool) : List V → Hp → VK → Prop := fun xs H Q => ∃ (p : Addr) (bs : List Bool), xs = [.ref p] ∧ SqL K H p (bs.map V.bl) ∧ Q (.bl (f bs)) H
theorem truth_bls {w : World} {prog : Program} {A : Around} (bs : List Bool) : TruthOf prog w A (fun i v => (bs.map Value.bool).toArray[i]? = some v) (fun i => bs.getD i false) := by
  intro i v s Q E hv hq
  have e : (bs.map Value.bool)[i]? = some v := by simpa using hv
  rw [List.getElem?_map] at e
  obtain ⟨b, eb, e⟩ := Option.map_eq_some_iff.mp e
  subst e
  have hq' : Q (bs.getD i false) s := hq
  rw [List.getD_eq_getElem?_getD, eb] at hq'
  exact wpAny_truthy_bool hq'
theorem call_all (hc : X.calm = true) : CallR X (.builtin "all") (rAll X.K fun bs => bs.all id) := by
  intro pins s σ H xs us Q I r h
  obtain ⟨p, bs, rfl, hq, q⟩ := h
  obtain ⟨u, rfl, rx⟩ := vals1 r
  cases rx
  obtain ⟨its, rv, pl, hz⟩ := I.list hq
  have hb := vals_bls rv
  subst hb
  have hlt : p < s.heap.objs.size := by
    obtain ⟨o, e, _⟩ := pl.isList
    exact Heap.lt_size e
  refine call_all_walk (wpAny_pyIter_list pl.isList ?_)
  refine ⟨_, _, _, _, _, _, _, rfl, Walks.list (A := X.A.in1) (I.ok.hd hc) s.heap.objs.size p (Nat.ne_of_lt hlt) (bs.map Value.bool).toArray, ?_, truth_bls bs, fun h' tk hk => ?_⟩
  · exact ⟨⟨_, Heap.get?_push_size _ rfl, rfl, rfl⟩, pl.isList.push _⟩
  · refine ⟨.bl (bs.all id), H, ?_, ?_, q⟩
    · exact I.kept fun b o e => hk b o (by simp; exact Nat.ne_of_lt (Heap.lt_size e)) (Heap.get?_push_of_some _ e)
    · have : (bs.map Value.bool).toArray.size = bs.length := by simp
      rw [this, all_range]
      rfl
def oAll (f : List Bool → Bool) : List Dm → Option Dm
  | [.lst ds] => (bls? ds).map fun bs => .bl (f bs)
  | _ => none
theorem cs_all {K : PySem.W.Frag} {f : List Bool → Bool} : CallS K (rAll K f) (oAll f) := by
  intro vs H ds d Q h e
  unfold oAll at e
  split at e
  · obtain ⟨ns, en, e⟩ := Option.map_eq_some_iff.mp e
    subst e
    obtain ⟨v, rfl, q⟩ := reps1 h
    unfold Rep at q
    obtain ⟨a, xs, rfl, hq, rr⟩ := q
    rw [bls_some en] at rr
    exact ⟨rfl, fun k => ⟨a, ns, rfl, by rw [← reps_bls rr]; exact hq, k⟩⟩
  · cases e
def fTuple (f : EF) : EF := fun δ => (fz f δ).bind fun r => (seqs? r.dat).bind fun ds => match r with
  | .al _ _ => some (.sh (.tup ds))
  | _ => some (.sh (.tup ds))
theorem pd_tuple {e : Expr} {f : EF} {p pos : Pos} (h : PD X e f) (hg : Gl X "tuple") (hm : X.mg "tuple" = none) (hv : bootBuiltins "tuple" = some (.type "tuple")) (he : starEach [e] X.env = (false, eval e X.env) :: starEach [] X.env := by rfl) : PD X (.Call (.Name "tuple" p) [e] [] pos) (fTuple f) := by
  refine PE.imp (pe_callTy call_tuple_of hg hm hv (pad_cons h pad_nil he) (by decide +kernel) (by decide +kernel) he) fun σ H Q h => ?_
  obtain ⟨B, G0, G, δ, r0, S, e, k⟩ := h
  obtain ⟨r, er, e⟩ := Option.bind_eq_some_iff.mp e
  obtain ⟨ds, eds, e⟩ := Option.bind_eq_some_iff.mp e
  obtain ⟨ra, era, er⟩ := Option.map_eq_some_iff.mp er
  subst er
  have e' : r0 = .sh (.tup ds) := by split at e <;> exact (Option.some.inj e).symm
  subst e'
  refine ⟨B, G0, G, δ, [ra.fz], S, by unfold evs evs; rw [era]; rfl, fun vs G1 H1 S1 g1 q1 => ?_⟩
  obtain ⟨v, rfl, q⟩ := RsRs.one q1
  have k1 := KD.step ⟨S, k⟩ S1 g1
  cases hd : ra.fz.dat with
  | lst es =>
    rw [hd] at eds; cases eds
    obtain ⟨a, xs, rfl, hq, rr⟩ := RsR.lst S1 q hd
    exact ⟨a, xs, rfl, .inl ⟨hq, fun l hl => k1.newT rr hl⟩⟩
  | tup es =>
    rw [hd] at eds; cases eds
    have hsh : ra.fz = .sh (.tup ds) := by
      cases hr : ra.fz with
      | sh d => rw [hr] at hd; rw [show d = .tup ds from hd]
      | ow xs => rw [hr] at hd; cases hd
      | al i xs => rw [hr] at hd; cases hd
      | ft pre es => have z := ra.fz_still; rw [hr] at z; cases z
      | od ks ds => have z := ra.fz_still; rw [hr] at z; cases z
    obtain ⟨a, xs, rfl, hq, rr⟩ := RsR.tup S1 q (by cases ra <;> rfl) hd
    rw [hsh] at q
    exact ⟨a, xs, rfl, .inr ⟨hq, k1.now q⟩⟩
  | non => rw [hd] at eds; cases eds
  | bl b => rw [hd] at eds; cases eds
  | int i => rw [hd] at eds; cases eds
  | str z => rw [hd] at eds; cases eds
  | dct ks ds => rw [hd] at eds; cases eds
def signs (z : Str) : List Dm := z.cps.toList.map fun c => .str ⟨#[c]⟩
def Its (z : Str) : It := ⟨fun i _ => i < z.cps.size, fun i H x H' => H' = H ∧ ∃ c, z.cps[i]? = some c ∧ x = .str ⟨#[c]⟩, fun i _ => z.cps.size ≤ i⟩
theorem turn_str {P : Program} {w : World} {K : PySem.W.Frag} {tg : Expr} (z : Str) (t : Tok) (it : Addr) (kd : String) (hk : kd = "str_ascii_iterator" ∨ kd = "str_iterator") : Turn P w K tg (Its z) [it] it (fun i h => h.IsStrIter it kd z t i) where
  mem := by simp
  obj := fun i h st b hb => by
    have e : b = it := by simpa using hb
    subst e
    obtain ⟨o, e, c, d⟩ := st
    exact ⟨o, e, fun v z => by rw [d] at z; cases z⟩
  keep := fun i h h' st k => let ⟨o, ho, r⟩ := st; ⟨o, k it (by simp) o ho, r⟩
  item := by
    intro X hP hw hK hc i pins s σ H E I hf st hg
    subst hP hw hK
    obtain ⟨f0, f1, f2, f3, f4, f5⟩ := hf it (by simp)
    have go : ∀ (W : Walks X.prog X.w X.A it [it] [it] z.cps.size (SignAt z) (fun i h => h.IsStrIter it kd z t i)), wpAny (model X.prog X.w) X.A (pyNext (.ref it)) (fun r s1 => ∃ u, r = some u ∧
      wpAny (model X.prog X.w) X.A (letOwnedTupleGo tg (.ref it) u) (fun _ s2 => ∃ x H', Inv X pins σ H' s2 ∧ RelV x u ∧ (Its z).yld i H x H' ∧ s2.heap.IsStrIter it kd z t (i + 1) ∧ ∀ b ∈ [it], H' b = none) E s1) E s := fun W => by
      refine W.item i s _ _ hg st fun v h' tk hv st' kk => ?_
      obtain ⟨c, u, hcz, rfl⟩ := hv
      have I1 : Inv X pins σ H { s with heap := h', toks := tk } := I.turned (fun b o hb e => kk b o (by simpa using hb) e) f0 f1 f3 f4 f5
      obtain ⟨o, e, ec, ed⟩ := id st'
      exact ⟨_, rfl, go_of (s := { s with heap := h', toks := tk }) e ec ed (by rcases hk with rfl | rfl <;> decide) ⟨.str ⟨#[c]⟩, H, I1, ⟨u, rfl⟩, ⟨rfl, c, hcz, rfl⟩, st', fun b hb => (hf b hb).1⟩⟩
    rcases hk with rfl | rfl
    · exact go (Walks.strAscii (I.ok.hd hc) it z t)
    · exact go (Walks.strWide (I.ok.hd hc) it z t)
  done := by
    intro X hP hw hK hc i pins s σ H E I hf st hg
    subst hP hw hK
    obtain ⟨f0, f1, f2, f3, f4, f5⟩ := hf it (by simp)
    have hnone : z.cps[i]? = none := by
      have hg' : z.cps.size ≤ i := hg
      simp [hg']
    rcases hk with rfl | rfl
    · exact wpAny_pyNext_ascii_end (I.ok.hd hc) st hnone fun h' eb => ⟨rfl, I.turned (t' := s.toks) (fun b o hb e => eb b o hb e) f0 f1 f3 f4 f5⟩
    · exact wpAny_pyNext_wide_end (I.ok.hd hc) st hnone fun h' eb => ⟨rfl, I.turned (t' := s.toks) (fun b o hb e => eb b o hb e) f0 f1 f3 f4 f5⟩
  self := fun _ _ _ _ _ st h => by
    rcases hk with rfl | rfl
    · exact wpAny_pyIter_striter_ascii st h
    · exact wpAny_pyIter_striter_wide st h
def iStr0 (te : TE) : TI := fun σ H R => te σ H fun x H1 => ∃ z, x = .str z ∧ R (Its z) H1
theorem pi_str0 {tg l : Expr} {tl : TE} (hl : PE X l tl) : PI X tg l (iStr0 tl) := by
  intro pins s σ H R I h
  refine thn (hl pins s σ H _ I h) fun v s1 ⟨x, H1, I1, r1, q1⟩ => ?_
  obtain ⟨z, rfl, q⟩ := q1
  obtain ⟨t, rfl⟩ := r1
  have fin : ∀ (o : Obj) (kd : String), (kd = "str_ascii_iterator" ∨ kd = "str_iterator") → (s1.heap.push o).IsStrIter s1.heap.objs.size kd z t 0 → PIE X pins σ tg R (.ref s1.heap.objs.size) { s1 with heap := s1.heap.push o } := fun o kd hk st =>
    ⟨_, [s1.heap.objs.size], _, _, H1, rfl, I1.kept (t' := s1.toks) fun b ob e => Heap.get?_push_of_some _ e, turn_str z t _ kd hk, st, fun b hb => by
      have eb : b = s1.heap.objs.size := by simpa using hb
      subst eb
      exact I1.fpOk (Nat.le_refl _) (I1.hok.fresh (Nat.le_refl _)), q⟩
  cases ha : z.cps.all (· < 128)
  · exact wpAny_pyIter_wide ha (fin _ _ (.inr rfl) ⟨_, Heap.get?_push_size _ rfl, rfl, rfl⟩)
  · exact wpAny_pyIter_ascii ha (fin _ _ (.inl rfl) ⟨_, Heap.get?_push_size _ rfl, rfl, rfl⟩)
theorem jd_str {K : PySem.W.Frag} {G : Hp} {z : Str} : JD K (Its z) (signs z) G := by
  intro i H G1 g1 g2
  have hl : (signs z).length = z.cps.size := by unfold signs; simp
  refine ⟨fun d hd => ?_, fun hi => by rw [hl] at hi; exact hi⟩
  have hin : i < z.cps.size := by rw [← hl]; exact (List.getElem?_eq_some_iff.mp hd).1
  refine ⟨hin, fun x H' y => ?_⟩
  obtain ⟨rfl, c, hc, rfl⟩ := y
  refine ⟨G1, Gr.refl, g2, ?_⟩
  unfold signs at hd
  rw [List.getElem?_map, Array.getElem?_toList, hc] at hd
  cases hd
  unfold Rep; rfl
def walk? : Rs → Option (List Dm)
  | .sh (.lst ds) => some ds
  | .sh (.tup ds) => some ds
  | .sh (.str z) => some (signs z)
  | _ => none
def iS (f : EF) : IF := fun δ => (fz f δ).bind walk?
theorem pi_s {tg e : Expr} {f : EF} (h : PD X e f) : PID X tg e (iS f) := PI.imp (PI.or (pi_l h) (PI.or (pi_t h) (pi_str0 h.fz))) fun σ H R q => by
  obtain ⟨B, G0, G, δ, ds, S, e, k⟩ := q
  obtain ⟨r, er, e⟩ := Option.bind_eq_some_iff.mp e
  unfold walk? at e
  split at e
  · cases e
    exact .inl ⟨B, G0, G, δ, _, S, by unfold iL; rw [er]; rfl, k⟩
  · cases e
    exact .inr (.inl ⟨B, G0, G, δ, _, S, by unfold iT; rw [er]; rfl, k⟩)
  · cases e
    refine .inr (.inr ⟨B, G0, G, δ, _, S, er, fun v G1 H1 S1 g1 q1 => ?_⟩)
    have q1' : Rep X.K G1 (.str _) v := q1
    unfold Rep at q1'
    exact ⟨_, q1', k _ G1 H1 S1 g1 jd_str⟩
  · cases e
end
end BF
set_option Elab.async false
set_option linter.all false
set_option maxRecDepth 100000
set_option maxHeartbeats 4000000
namespace BF
open PySem PySem.Spec PyProof.Rows L2
noncomputable section
variable {X : Cx}
def Itz (K : PySem.W.Frag) (a b : Addr) : It :=
  ⟨fun i H => ∃ xs ys x y, SqL K H a xs ∧ SqL K H b ys ∧ xs[i]? = some x ∧ ys[i]? = some y,
   fun i H z H' => ∃ t, H t = none ∧ z = .ref t ∧ ∃ x y, H' = upd H t (.tup [x, y]) ∧ (∀ xs, SqL K H a xs → xs[i]? = some x) ∧ ∀ ys, SqL K H b ys → ys[i]? = some y,
   fun i H => ∃ xs ys, SqL K H a xs ∧ SqL K H b ys ∧ (xs.length ≤ i ∨ ys.length ≤ i)⟩
theorem turn_zip {P : Program} {w : World} {K : PySem.W.Frag} {elts : List Expr} {x1 : Nat} {tp : Pos} (a b z TI TO i1 i2 : Addr) (D : ZipApart z TI TO i1 i2 a b) :
    Turn P w K (.Tuple elts x1 tp) (Itz K a b) [z, TI, TO, i1, i2] z (fun i h => IsZip h z TI TO .none ∧ IsPair h TI (.ref i1) (.ref i2) ∧ (∃ u v, IsPair h TO u v) ∧ h.IsListIter i1 a i ∧ h.IsListIter i2 b i) where
  mem := by simp
  obj := fun i h st c hc => by
    obtain ⟨hz, hTI, ⟨u, v, hTO⟩, ⟨o1, e1, _, d1⟩, ⟨o2, e2, _, d2⟩⟩ := st
    simp only [List.mem_cons, List.not_mem_nil, or_false] at hc
    rcases hc with rfl | rfl | rfl | rfl | rfl
    · exact ⟨_, hz, fun v q => by
        have q' : Data.fields _ = Data.cell v := q
        cases q'⟩
    · exact ⟨_, hTI, fun v q => by
        have q' : Data.seq _ _ = Data.cell v := q
        cases q'⟩
    · exact ⟨_, hTO, fun v q => by
        have q' : Data.seq _ _ = Data.cell v := q
        cases q'⟩
    · exact ⟨o1, e1, fun v q => by rw [d1] at q; cases q⟩
    · exact ⟨o2, e2, fun v q => by rw [d2] at q; cases q⟩
  keep := fun i h h' st k => by
    obtain ⟨hz, hTI, ⟨u, v, hTO⟩, h1, h2⟩ := st
    exact ⟨k z (by simp) _ hz, k TI (by simp) _ hTI, ⟨u, v, k TO (by simp) _ hTO⟩, h1.at fun o q => k i1 (by simp) o q, h2.at fun o q => k i2 (by simp) o q⟩
  item := by
    intro X hP hw hK hc i pins s σ H E I hf st hg
    subst hP hw hK
    obtain ⟨hz, hTI, ⟨u, v, hTO⟩, h1, h2⟩ := st
    obtain ⟨xs, ys, x, y, hq1, hq2, hx, hy⟩ := hg
    obtain ⟨its1, rv1, p1, hs1⟩ := I.list hq1
    obtain ⟨its2, rv2, p2, hs2⟩ := I.list hq2
    obtain ⟨ux, hux, rx⟩ := rv1.get hx
    obtain ⟨uy, huy, ry⟩ := rv2.get hy
    have zlt : z < s.heap.objs.size := Heap.lt_size hz
    refine wpAny_pyNext_zip_item D hz hTI hTO h1 h2 p1.isList p2.isList (x := ux) (y := uy) (by simpa using hux) (by simpa using huy) fun h' z1 t1 l1 l2 pn sz kp => ?_
    refine ⟨_, rfl, wpAny_letOwnedTupleGo_zip z1 fun h'' z2 sb => ?_⟩
    have TIk : IsPair h' TI (.ref i1) (.ref i2) := kp TI _ D.TIz D.TITO D.TIi1 D.TIi2 hTI
    have up : ∀ c, c ≠ z → h''.get? c = h'.get? c := fun c hc => sb.2 c hc
    refine ⟨.ref s.heap.objs.size, upd H s.heap.objs.size (.tup [x, y]), turnNew (s := s) (t' := s.toks) (h' := h'') (ch := [z, TI, TO, i1, i2]) I hf (fun c ob hc q => ?_) (Nat.le_refl _) ?_, rfl, ⟨_, I.hok.fresh (Nat.le_refl _), rfl, x, y, rfl, fun zs hz' => by rw [I.list_inj hz' hq1]; exact hx, fun zs hz' => by rw [I.list_inj hz' hq2]; exact hy⟩, ⟨z2, (up TI D.TIz).trans TIk, ⟨_, _, (up TO D.TOz).trans t1⟩, l1.at fun o q => (up i1 D.i1z).trans q, l2.at fun o q => (up i2 D.i2z).trans q⟩, fun c hc => ?_⟩
    · simp only [List.mem_cons, List.not_mem_nil, or_false, not_or] at hc
      exact (up c hc.1).trans (kp c ob hc.1 hc.2.2.1 hc.2.2.2.1 hc.2.2.2.2 q)
    · exact ⟨by show 2 ≤ sizeLine; rw [sizeLine_eq]; decide, [ux, uy], .cons rx (.cons ry .nil), ⟨_, (up _ (Nat.ne_of_gt zlt)).trans pn, rfl, _, rfl⟩⟩
    · have lt : c < s.heap.objs.size := by
        obtain ⟨o1, e1, _⟩ := h1
        obtain ⟨o2, e2, _⟩ := h2
        simp only [List.mem_cons, List.not_mem_nil, or_false] at hc
        rcases hc with rfl | rfl | rfl | rfl | rfl
        · exact zlt
        · exact Heap.lt_size hTI
        · exact Heap.lt_size hTO
        · exact Heap.lt_size e1
        · exact Heap.lt_size e2
      rw [upd_ne (Nat.ne_of_lt lt)]
      exact (hf c hc).1
  done := by
    intro X hP hw hK hc i pins s σ H E I hf st hg
    subst hP hw hK
    obtain ⟨hz, hTI, ⟨u, v, hTO⟩, h1, h2⟩ := st
    obtain ⟨xs, ys, hq1, hq2, hend⟩ := hg
    obtain ⟨its1, rv1, p1, hs1⟩ := I.list hq1
    obtain ⟨its2, rv2, p2, hs2⟩ := I.list hq2
    have e1 := rv1.length
    have e2 := rv2.length
    refine wpAny_pyNext_zip_end (I.ok.hd hc) D hz hTI hTO h1 h2 p1.isList p2.isList (by
      rcases hend with q | q
      · exact .inl (by simp; omega)
      · exact .inr (by simp; omega)) fun h' kp => ⟨rfl, ?_⟩
    refine I.step (g' := s.gens) (d' := s.drawn) (t' := s.toks) (ch := [z, TO, i1, i2]) (fun c hc' => ?_) (fun c o _ _ hc' e _ => ?_) (fun c o _ _ hc' e _ => ⟨o.slots, ?_⟩) (fun _ _ _ _ n => n) (fun c o hc' e => ⟨o, ?_⟩) (fun _ _ e => e) (fun _ _ _ e => e) (fun c ps e => ⟨#[], by rw [e]; simp⟩) (fun m hm => ?_) (fun c o e => ?_) I.bare
    · have hm : c ∈ [z, TI, TO, i1, i2] := by
        simp only [List.mem_cons, List.not_mem_nil, or_false] at hc' ⊢
        rcases hc' with q | q | q | q
        · exact .inl q
        · exact .inr (.inr (.inl q))
        · exact .inr (.inr (.inr (.inl q)))
        · exact .inr (.inr (.inr (.inr q)))
      obtain ⟨f0, f1, f2, f3, f4, f5⟩ := hf c hm
      exact ⟨f3, f1, f4, f5⟩
    · simp only [List.mem_cons, List.not_mem_nil, or_false, not_or] at hc'
      exact kp c o hc'.1 hc'.2.1 hc'.2.2.1 hc'.2.2.2 e
    · simp only [List.mem_cons, List.not_mem_nil, or_false, not_or] at hc'
      exact kp c o hc'.1 hc'.2.1 hc'.2.2.1 hc'.2.2.2 e
    · simp only [List.mem_cons, List.not_mem_nil, or_false, not_or] at hc'
      exact kp c o hc'.1 hc'.2.1 hc'.2.2.1 hc'.2.2.2 e
    · obtain ⟨o, es, ep, ho, r⟩ := hm
      have n1 : X.env.locals ≠ z := fun q => (hf z (by simp)).2.1 q.symm
      have n2 : X.env.locals ≠ TO := fun q => (hf TO (by simp)).2.1 q.symm
      have n3 : X.env.locals ≠ i1 := fun q => (hf i1 (by simp)).2.1 q.symm
      have n4 : X.env.locals ≠ i2 := fun q => (hf i2 (by simp)).2.1 q.symm
      exact ⟨o, es, ep, kp _ o n1 n2 n3 n4 ho, r⟩
    · have nf : ∀ d u, H d = some u → d ≠ z ∧ d ≠ TO ∧ d ≠ i1 ∧ d ≠ i2 := fun d u q => by
        refine ⟨?_, ?_, ?_, ?_⟩ <;> rintro rfl
        · rw [(hf _ (by simp)).1] at q; cases q
        · rw [(hf _ (by simp)).1] at q; cases q
        · rw [(hf _ (by simp)).1] at q; cases q
        · rw [(hf _ (by simp)).1] at q; cases q
      refine (I.hok c o e).stay (fun d v hd q => ?_) (fun _ q => q) fun _ _ q => q
      rcases hd with rfl | hd
      · obtain ⟨a1, a2, a3, a4⟩ := nf _ _ e; exact kp _ v a1 a2 a3 a4 q
      · obtain ⟨a1, a2, a3, a4⟩ := nf _ _ hd; exact kp _ v a1 a2 a3 a4 q
  self := fun _ _ _ _ _ st h => wpAny_pyIter_zip st.1 h
def iZip0 (K : PySem.W.Frag) (ta : TA) : TI := fun σ H R => ta σ H fun vs H1 => ∃ a b, vs = [.ref a, .ref b] ∧ (∃ xs, SqL K H1 a xs) ∧ (∃ ys, SqL K H1 b ys) ∧ R (Itz K a b) H1
theorem pi_zip0 {a b : Expr} {ta : TA} {p pos : Pos} {elts : List Expr} {x1 : Nat} {tp : Pos} (hg : Gl X "zip") (hm : X.mg "zip" = none) (hb : bootBuiltins "zip" = some (.type "zip")) (ha : PA X [a, b] ta) (hs : starEach [a, b] X.env = [(false, eval a X.env), (false, eval b X.env)] := by rfl) (hs2 : starEach [b] X.env = [(false, eval b X.env)] := by rfl) :
    PI X (.Tuple elts x1 tp) (.Call (.Name "zip" p) [a, b] [] pos) (iZip0 X.K ta) := by
  intro pins s σ H R I h
  refine PyProof.Rows.Call_ (ld_blt I hg hm hb (PyProof.Rows.callWith_type1 (thn (ha pos pins s σ H _ I h) fun us s1 ⟨vs, H1, I1, r1, q1⟩ => ?_) (by rw [hs, hs2]) (by rw [hs2]; rfl)))
  obtain ⟨l1, l2, e, ⟨xs, hq1⟩, ⟨ys, hq2⟩, q⟩ := q1
  subst e
  obtain ⟨u, w', rfl, ru, rw'⟩ := vals2 r1
  cases ru
  cases rw'
  obtain ⟨its1, rv1, p1, hz1⟩ := I1.list hq1
  obtain ⟨its2, rv2, p2, hz2⟩ := I1.list hq2
  have lt1 : l1 < s1.heap.objs.size := by obtain ⟨o, e, _⟩ := p1.isList; exact Heap.lt_size e
  have lt2 : l2 < s1.heap.objs.size := by obtain ⟨o, e, _⟩ := p2.isList; exact Heap.lt_size e
  refine call_zip_2 p1.isList p2.isList fun h' hz hTI hTO hi1 hi2 hsz hk => ?_
  refine wpAny_pyIter_zip hz ?_
  have I2 : Inv X pins σ H1 { s1 with heap := h' } := I1.kept (t' := s1.toks) hk
  refine ⟨s1.heap.objs.size + 4, [s1.heap.objs.size + 4, s1.heap.objs.size + 2, s1.heap.objs.size + 3, s1.heap.objs.size, s1.heap.objs.size + 1], _, _, H1, rfl, I2, turn_zip l1 l2 _ _ _ _ _ (PySem.W.ktu_apart _ _ _ lt1 lt2), ⟨hz, hTI, ⟨_, _, hTO⟩, hi1, hi2⟩, fun b hb => ?_, q⟩
  have fr : ∀ c, s1.heap.objs.size ≤ c → FpOk X pins H1 c := fun c hc => I1.fpOk hc (I1.hok.fresh hc)
  simp only [List.mem_cons, List.not_mem_nil, or_false] at hb
  rcases hb with rfl | rfl | rfl | rfl | rfl
  · exact fr _ (Nat.le_add_right _ _)
  · exact fr _ (Nat.le_add_right _ _)
  · exact fr _ (Nat.le_add_right _ _)
  · exact fr _ (Nat.le_refl _)
  · exact fr _ (Nat.le_add_right _ _)
def zipD : List Dm → List Dm → List Dm
  | x :: xs, y :: ys => .tup [x, y] :: zipD xs ys
  | _, _ => []
theorem zipD_get : ∀ {xs ys : List Dm} {i : Nat} {d : Dm}, (zipD xs ys)[i]? = some d → ∃ x y, xs[i]? = some x ∧ ys[i]? = some y ∧ d = .tup [x, y]
  | [], ys, i, d, h => by simp [zipD] at h
  | _ :: _, [], i, d, h => by simp [zipD] at h
  | x :: xs, y :: ys, 0, d, h => by simp [zipD] at h; exact ⟨x, y, rfl, rfl, h.symm⟩
  | x :: xs, y :: ys, i + 1, d, h => by
    obtain ⟨a, b, h1, h2, h3⟩ := zipD_get (xs := xs) (ys := ys) (i := i) (d := d) (by simpa [zipD] using h)
    exact ⟨a, b, by simpa using h1, by simpa using h2, h3⟩
theorem zipD_len : ∀ {xs ys : List Dm} {i : Nat}, (zipD xs ys).length ≤ i → xs.length ≤ i ∨ ys.length ≤ i
  | [], ys, i, h => .inl (by simp)
  | _ :: _, [], i, h => .inr (by simp)
  | x :: xs, y :: ys, 0, h => by simp [zipD] at h
  | x :: xs, y :: ys, i + 1, h => by
    rcases zipD_len (xs := xs) (ys := ys) (i := i) (by simpa [zipD] using h) with q | q
    · exact .inl (by simpa using q)
    · exact .inr (by simpa using q)
theorem jd_zip {K : PySem.W.Frag} {G : Hp} {a b : Addr} {xs ys : List V} {ds es : List Dm} (hq1 : SqL K G a xs) (rr1 : Reps K G ds xs) (hq2 : SqL K G b ys) (rr2 : Reps K G es ys) : JD K (Itz K a b) (zipD ds es) G := by
  intro i H G1 g1 g2
  have h1 := g2.seq (g1.seq hq1)
  have h2 := g2.seq (g1.seq hq2)
  refine ⟨fun d hd => ?_, fun hi => ⟨xs, ys, h1, h2, by rw [← rr1.length, ← rr2.length]; exact zipD_len hi⟩⟩
  obtain ⟨dx, dy, e1, e2, rfl⟩ := zipD_get hd
  obtain ⟨v, hv, rv⟩ := rr1.get e1
  obtain ⟨u, hu, ru⟩ := rr2.get e2
  refine ⟨⟨xs, ys, v, u, h1, h2, hv, hu⟩, fun x H' y => ?_⟩
  obtain ⟨t, ht, rfl, x', y', rfl, hx, hy⟩ := y
  have ex := hx xs h1
  have ey := hy ys h2
  rw [hv] at ex
  rw [hu] at ey
  cases ex
  cases ey
  have g1t : G1 t = none := g2.free ht
  refine ⟨upd G1 t (.tup [v, u]), ⟨Same.upd_new g1t, Same.upd_new ht, fun b hb => upd_ne (by rintro rfl; exact hb ht)⟩, fun b u e => ?_, ?_⟩
  · by_cases z : b = t
    · subst z; rw [upd_same] at e ⊢; exact e
    · rw [upd_ne z] at e ⊢; exact g2 b u e
  · unfold Rep
    exact ⟨t, _, rfl, SqT.of upd_same, Reps.cons (rv.mono (g1.trans (Same.upd_new g1t))) (Reps.cons (ru.mono (g1.trans (Same.upd_new g1t))) Reps.nil)⟩
def iZ (f g : EF) : IF := fun δ => (fz f δ).bind fun r => (shl? r).bind fun ds => (fz g δ).bind fun q => (shl? q).map fun es => zipD ds es
theorem pi_z {a b : Expr} {f g : EF} {p pos : Pos} {elts : List Expr} {x1 : Nat} {tp : Pos} (h : PD X a f) (h' : PD X b g) (hg : Gl X "zip") (hm : X.mg "zip" = none) (hb : bootBuiltins "zip" = some (.type "zip")) (hs : starEach [a, b] X.env = [(false, eval a X.env), (false, eval b X.env)] := by rfl) (hs2 : starEach [b] X.env = [(false, eval b X.env)] := by rfl) (hs1 : starEach [a, b] X.env = (false, eval a X.env) :: starEach [b] X.env := by rfl) :
    PID X (.Tuple elts x1 tp) (.Call (.Name "zip" p) [a, b] [] pos) (iZ f g) := PI.imp (pi_zip0 hg hm hb (pad_cons h (pad_cons h' pad_nil hs2) hs1) hs hs2) fun σ H R q => by
  obtain ⟨B, G0, G, δ, ds, S, e, k⟩ := q
  obtain ⟨r, er, e⟩ := Option.bind_eq_some_iff.mp e
  obtain ⟨xs, exs, e⟩ := Option.bind_eq_some_iff.mp e
  obtain ⟨r', er', e⟩ := Option.bind_eq_some_iff.mp e
  obtain ⟨ys, eys, e⟩ := Option.map_eq_some_iff.mp e
  subst e
  rw [shl_some exs] at er
  rw [shl_some eys] at er'
  unfold fz at er er'
  obtain ⟨r0, er0, er⟩ := Option.map_eq_some_iff.mp er
  obtain ⟨r1, er1, er'⟩ := Option.map_eq_some_iff.mp er'
  refine ⟨B, G0, G, δ, [r0.fz, r1.fz], S, by unfold evs evs evs; rw [er0, er1]; rfl, fun vs G1 H1 S1 g1 q1 => ?_⟩
  obtain ⟨v, t, rfl, _, qa, q1⟩ := q1
  obtain ⟨u, rfl, qb⟩ := RsRs.one q1
  rw [er] at qa
  rw [er'] at qb
  have qa' : Rep X.K G1 (.lst xs) v := qa
  have qb' : Rep X.K G1 (.lst ys) u := qb
  unfold Rep at qa' qb'
  obtain ⟨a, vs, rfl, hq, rr⟩ := qa'
  obtain ⟨b, us, rfl, hq', rr'⟩ := qb'
  exact ⟨a, b, rfl, ⟨vs, S1.gh.seq hq⟩, ⟨us, S1.gh.seq hq'⟩, k _ G1 H1 S1 g1 (jd_zip hq rr hq' rr')⟩
theorem bo_zip : bootBuiltins "zip" = some (.type "zip") := by decide +kernel
theorem bo_all : bootBuiltins "all" = some (.builtin "all") := by decide +kernel
end
end BF
set_option Elab.async false
set_option linter.all false
set_option maxRecDepth 100000
set_option maxHeartbeats 4000000
namespace BF
open PySem PySem.Spec PyProof.Rows L2
noncomputable section
variable {X : Cx}
theorem Sim.poke {K : PySem.W.Frag} {B G0 G H : Hp} {δ : List Sl} {σ : L2.St} (S : Sim K B G0 G δ σ H) {p : Addr} {o : HO} (hg : G p = none) (hb : B p = none) (ns : NS δ σ p) : Sim K B G0 G δ σ (upd H p o) where
  len := S.len
  bh := fun b u e => by rw [upd_ne (ne_of_none e hb)]; exact S.bh b u e
  g0 := S.g0
  gh := fun b u e => by rw [upd_ne (ne_of_none e hg)]; exact S.gh b u e
  gb := S.gb
  slot := fun i s h => by
    have q := S.slot i s h
    cases s with
    | un => trivial
    | sh d => exact q
    | ow ds =>
      obtain ⟨q, xs, e1, e2, r⟩ := q
      exact ⟨q, xs, e1, by rw [upd_ne (by rintro rfl; exact ns i _ h rfl e1)]; exact e2, r⟩
    | so C d => exact q
    | pt p' k d => exact q
    | xc C => exact q
    | od ks ds =>
      obtain ⟨q, xs, e1, e2, r⟩ := q
      exact ⟨q, xs, e1, by rw [upd_ne (by rintro rfl; exact ns i _ h rfl e1)]; exact e2, r⟩
    | oT ks ds =>
      obtain ⟨q, xs, e1, e2, r⟩ := q
      exact ⟨q, xs, e1, by rw [upd_ne (by rintro rfl; exact ns i _ h rfl e1)]; exact e2, r⟩
  disj := S.disj
theorem RsRs.length {K : PySem.W.Frag} {G H : Hp} {δ : List Sl} {σ : L2.St} : ∀ {rs : List Rs} {vs : List V}, RsRs K G H δ σ rs vs → vs.length = rs.length
  | [], vs, h => by rw [show vs = [] from h]; rfl
  | r :: rs, vs, h => by
    obtain ⟨v, t, rfl, _, _, h⟩ := h
    rw [List.length_cons, List.length_cons, RsRs.length h]
end
end BF
set_option Elab.async false
set_option linter.all false
set_option maxRecDepth 100000
set_option maxHeartbeats 4000000
namespace BF
open PySem L2
theorem sl_tail {fa : EF} {δ : List Sl} {x : Dm} {ds : List Dm} (h : dt fa δ = some (.tup (x :: ds))) : fSl fa (pSome (fC (.int 1))) pNo δ = some (.sh (.tup ds)) := by
  unfold fSl
  rw [h]
  show slD (.tup (x :: ds)) (some ((1 : Nat) : Int)) none = _
  unfold slD
  have e : HT.sIx (x :: ds).length 0 (some ((1 : Nat) : Int)) = 1 := by rw [HT.sIx_nat, List.length_cons]; omega
  show (if _ then _ else _) = _
  rw [if_neg (by rw [e]; omega), cut_from]
  rfl
theorem iS_of {f : EF} {δ : List Sl} {r : Rs} {ds : List Dm} (h : f δ = some r) (h2 : walk? r.fz = some ds) : iS f δ = some ds := by unfold iS; rw [fz_some h, Option.bind_some, h2]
theorem isi_of {f : EF} {δ : List Sl} {d : Dm} {c : String} (h : dt f δ = some d) : fIsi f c δ = some (.sh (.bl (isTy d c))) := by unfold fIsi; rw [h]; rfl
theorem and_t {f g : BF'} {δ : List Sl} {b : Bool} (h : f δ = some true) (h2 : g δ = some b) : bAnd f g δ = some b := by unfold bAnd; rw [h]; exact h2
theorem vand_t {f g : EF} {δ : List Sl} {r : Rs} (h : bB f δ = some true) (h2 : g δ = some r) : vAnd f g δ = some r := by unfold vAnd; rw [h]; exact h2
theorem vor_f {f g : EF} {δ : List Sl} {r : Rs} (h : bB f δ = some false) (h2 : g δ = some r) : vOr f g δ = some r := by unfold vOr; rw [h]; exact h2
theorem vor_t {f g : EF} {δ : List Sl} (h : bB f δ = some true) : vOr f g δ = some (.sh (.bl true)) := by unfold vOr; rw [h]; rfl
theorem bls_of (bs : List Bool) : bls? (bs.map Dm.bl) = some bs := by
  induction bs with
  | nil => rfl
  | cons b bs ih => show ((Dm.bl b).bl?.bind fun i => (bls? (bs.map Dm.bl)).map fun r => i :: r) = _; rw [ih]; rfl
theorem iZ_of {f g : EF} {δ : List Sl} {r q : Rs} {ds es : List Dm} (h1 : f δ = some r) (e1 : r.fz = .sh (.lst ds)) (h2 : g δ = some q) (e2 : q.fz = .sh (.lst es)) : iZ f g δ = some (zipD ds es) := by
  unfold iZ
  rw [fz_some h1, Option.bind_some, e1, fz_some h2, e2]; rfl
theorem tuple_of {f : EF} {δ : List Sl} {r : Rs} {ds : List Dm} (h : f δ = some r) (e : seqs? r.dat = some ds) : fTuple f δ = some (.sh (.tup ds)) := by
  unfold fTuple
  rw [fz_some h, Option.bind_some, Rs.fz_dat, e, Option.bind_some]
  cases r <;> rfl
theorem loop_all {i : Nat} {b : SF} {δ : List Sl} (ds : List Dm) (s : Sl) (h : ∀ d ∈ ds, b (δ.set i (.sh d)) = some (.nx (δ.set i (.sh d)))) : ∃ t, loopD (.nm i) b ds (δ.set i s) = some (.nx (δ.set i t)) := loop_stay ds s h
end BF
set_option Elab.async false
set_option linter.all false
set_option maxRecDepth 100000
set_option maxHeartbeats 4000000
namespace BF
open PySem PySem.Spec L2
noncomputable section
variable {X : Cx}
end
end BF
set_option Elab.async false
set_option linter.all false
set_option maxRecDepth 100000
set_option maxHeartbeats 4000000
namespace BF
open PySem PySem.Spec PyProof.Rows L2
noncomputable section
variable {X : Cx}
def Itr3 (lo c : Int) (n : Nat) : It := ⟨fun i _ => i < n, fun i H x H' => H' = H ∧ x = .int (lo + (i : Int) * c), fun i _ => n ≤ i⟩
theorem turn_range3 {P : Program} {w : World} {K : PySem.W.Frag} {tg : Expr} (it : Addr) (lo c : Int) (n : Nat) : Turn P w K tg (Itr3 lo c n) [it] it (fun i h => IsRangeIter h it (lo + (i : Nat) * c) ((n : Int) - (i : Nat)) c) where
  mem := by simp
  obj := fun i h st b hb => by
    have e : b = it := by simpa using hb
    subst e
    exact ⟨_, st, fun v z => by
      have z' : Data.fields _ = Data.cell v := z
      cases z'⟩
  keep := fun i h h' st k => k it (by simp) _ st
  item := by
    intro X hP hw hK hc i pins s σ H E I hf st hg
    subst hP hw hK
    obtain ⟨f0, f1, f2, f3, f4, f5⟩ := hf it (by simp)
    have W := Walks.range (prog := X.prog) (w := X.w) (I.ok.hd hc) it lo c n
    refine W.item i s _ _ hg st fun v h' tk hv st' kk => ?_
    obtain ⟨t, rfl⟩ := hv
    have I1 : Inv X pins σ H { s with heap := h', toks := tk } := I.turned (fun b o hb e => kk b o (by simpa using hb) e) f0 f1 f3 f4 f5
    exact ⟨_, rfl, go_of (s := { s with heap := h', toks := tk }) (n := "range_iterator") st' rfl rfl (by decide) ⟨.int (lo + (i : Int) * c), H, I1, ⟨t, rfl⟩, ⟨rfl, rfl⟩, st', fun b hb => (hf b hb).1⟩⟩
  done := by
    intro X hP hw hK hc i pins s σ H E I hf st hg
    subst hP hw hK
    obtain ⟨f0, f1, f2, f3, f4, f5⟩ := hf it (by simp)
    exact wpAny_pyNext_range_end (I.ok.hd hc) st (by have : n ≤ i := hg; omega) fun h' eb => ⟨rfl, I.turned (t' := s.toks) (fun b o hb e => eb b o hb e) f0 f1 f3 f4 f5⟩
  self := fun _ _ _ _ _ st h => wpAny_pyIter_rangeiter st h
def rng3 (lo c : Int) (n : Nat) : List Dm := (List.range n).map fun (k : Nat) => .int (lo + (k : Int) * c)
theorem jd_rng3 {K : PySem.W.Frag} {G : Hp} {lo c : Int} {n : Nat} : JD K (Itr3 lo c n) (rng3 lo c n) G := by
  intro i H G1 g1 g2
  have hl : (rng3 lo c n).length = n := by unfold rng3; simp
  refine ⟨fun d hd => ?_, fun hi => by rw [hl] at hi; exact hi⟩
  have hin : i < n := by rw [← hl]; exact (List.getElem?_eq_some_iff.mp hd).1
  refine ⟨hin, fun x H' y => ?_⟩
  obtain ⟨rfl, rfl⟩ := y
  refine ⟨G1, Gr.refl, g2, ?_⟩
  have : (rng3 lo c n)[i]? = some (.int (lo + (i : Int) * c)) := by unfold rng3; simp [hin]
  rw [this] at hd
  cases hd
  unfold Rep; rfl
def cnt3 (lo hi c : Int) : Nat := (Builtin.Range.rangeSize lo hi c).toNat
end
end BF
set_option Elab.async false
set_option linter.all false
set_option maxRecDepth 100000
set_option maxHeartbeats 4000000
namespace BF
open PySem PySem.Spec PyProof.Rows L2
noncomputable section
variable {X : Cx}
def mark1 (C : Hp) : Sl → Sl
  | .sh d => .so C d
  | s => s
def mark (C : Hp) (δ : List Sl) : List Sl := δ.map (mark1 C)
theorem Sim.mark {K : PySem.W.Frag} {B G0 C G H : Hp} {δ : List Sl} {σ : L2.St} (S1 : Sim K B G0 C δ σ H) (S2 : Sim K B G0 G δ σ H) (c : Same C G) : Sim K B G0 G (mark C δ) σ H := by
  have from_ : ∀ (j : Nat) (s : Sl), (BF.mark C δ)[j]? = some s → ∃ t, δ[j]? = some t ∧ s = mark1 C t := fun j s h => by
    unfold BF.mark at h
    rw [List.getElem?_map] at h
    obtain ⟨t, e, h⟩ := Option.map_eq_some_iff.mp h
    exact ⟨t, e, h.symm⟩
  have ow : ∀ (j : Nat) (ds : List Dm), (BF.mark C δ)[j]? = some (.ow ds) → δ[j]? = some (.ow ds) := fun j ds h => by
    obtain ⟨t, e, h⟩ := from_ j _ h
    cases t with
    | ow es => rw [e, show Sl.ow es = Sl.ow ds from h.symm]
    | sh d => cases h
    | un => cases h
    | so C d => cases h
    | pt p k d => cases h
    | xc C => cases h
    | od ks ds => cases h
    | oT ks ds => cases h
  refine ⟨by unfold BF.mark; rw [List.length_map]; exact S2.len, S2.bh, S2.g0, S2.gh, S2.gb, fun j s h => ?_, fun i j ds es p hij hi hj => S2.disj i j ds es p hij (ow i ds hi) (ow j es hj)⟩
  obtain ⟨t, e, rfl⟩ := from_ j s h
  cases t with
  | sh d =>
    obtain ⟨v, e1, r⟩ := S1.slot j _ e
    exact ⟨v, e1, r, c⟩
  | un => exact S2.slot j _ e
  | ow ds => exact S2.slot j _ e
  | so C' d => exact S2.slot j _ e
  | pt p k d => exact S2.slot j _ e
  | xc C' => exact S2.slot j _ e
  | od ks ds => exact S2.slot j _ e
  | oT ks ds => exact S2.slot j _ e
structure Ob (B G0 C G : Hp) (p : Addr) : Prop where
  same : Same C G
  cp : C p = none
  bp : B p = none
  g0 : Same G0 C
  gb : ∀ b, B b ≠ none → C b = G0 b
section
variable {i : Nat} {x : Str} {p0 p1 p2 apos cpos pos : Pos} {j} {rest : List Stmt} {C : Hp} {p : Addr}
end
end
end BF
set_option Elab.async false
set_option linter.all false
set_option maxRecDepth 100000
set_option maxHeartbeats 4000000
namespace BF
open PySem PySem.Spec PyProof.Rows L2
noncomputable section
variable {X : Cx}
theorem NS.set {δ : List Sl} {σ : L2.St} {p : Addr} (h : NS δ σ p) (i : Nat) {s : Sl} {v : V} (hs : s.own = false) : NS (δ.set i s) (σ.set i (some v)) p := fun j t hj ho e => by
  by_cases hij : j = i
  · subst hij
    have hlt : j < δ.length := by have := (List.getElem?_eq_some_iff.mp hj).1; simpa using this
    rw [List.getElem?_set_self hlt] at hj
    rw [← Option.some.inj hj, hs] at ho
    cases ho
  · rw [List.getElem?_set_ne (Ne.symm hij)] at hj e
    exact h j t hj ho e
end
end BF
set_option Elab.async false
set_option linter.all false
set_option maxRecDepth 100000
set_option maxHeartbeats 4000000
namespace BF
open PySem PySem.Spec L2
noncomputable section
variable {X : Cx}
theorem bo_reversed : bootBuiltins "reversed" = some (.type "reversed") := by decide +kernel
end
end BF
set_option Elab.async false
set_option linter.all false
set_option maxRecDepth 100000
set_option maxHeartbeats 4000000
namespace BF
open PySem PySem.Spec PyProof.Rows L2
noncomputable section
variable {X : Cx}
def replD : List Int → List Dm → Int → Dm → List Dm
  | k :: ks, e :: ds, n, d => (if k = n then d else e) :: replD ks ds n d
  | _, _, _, _ => []
def putKs (ks : List Int) (n : Int) : List Int := if n ∈ ks then ks else ks ++ [n]
def putDs (ks : List Int) (ds : List Dm) (n : Int) (d : Dm) : List Dm := if n ∈ ks then replD ks ds n d else ds ++ [d]
theorem any_keys : ∀ {kvs : List (Key × V)} {ks : List Int}, kvs.map (·.1) = ks.map Sum.inl → ∀ n : Int, (kvs.any fun kv => decide (kv.1 = Sum.inl n)) = decide (n ∈ ks)
  | [], [], _, n => by simp
  | [], k :: ks, h, n => by cases h
  | kv :: kvs, [], h, n => by cases h
  | kv :: kvs, k :: ks, h, n => by
    rw [List.map_cons, List.map_cons] at h
    injection h with h1 h2
    rw [List.any_cons, any_keys h2 n, h1]
    by_cases e : k = n
    · subst e; simp
    · have : ¬ (Sum.inl k : Key) = Sum.inl n := fun z => e (by injection z)
      rw [decide_eq_false this, Bool.false_or]
      simp [Ne.symm e]
theorem repl_keys : ∀ {kvs : List (Key × V)} (k : Key) (v : V), (kvs.map fun kv => if kv.1 = k then (kv.1, v) else kv).map (·.1) = kvs.map (·.1)
  | [], k, v => rfl
  | kv :: kvs, k, v => by
    rw [List.map_cons, List.map_cons, List.map_cons, repl_keys k v]
    congr 1
    split <;> rfl
theorem repl_reps {K : PySem.W.Frag} {G : Hp} {d : Dm} {v : V} (hd : Rep K G d v) : ∀ {kvs : List (Key × V)} {ks : List Int} {ds : List Dm} (n : Int), kvs.map (·.1) = ks.map Sum.inl → Reps K G ds (kvs.map (·.2)) → Reps K G (replD ks ds n d) ((kvs.map fun kv => if kv.1 = Sum.inl n then (kv.1, v) else kv).map (·.2))
  | [], [], ds, n, _, h => by
    cases ds with
    | nil => exact Reps.nil
    | cons e ds => unfold Reps at h; obtain ⟨_, _, z, _⟩ := h; cases z
  | [], k :: ks, ds, n, h, _ => by cases h
  | kv :: kvs, [], ds, n, h, _ => by cases h
  | kv :: kvs, k :: ks, ds, n, h, hr => by
    rw [List.map_cons, List.map_cons] at h
    injection h with h1 h2
    cases ds with
    | nil => unfold Reps at hr; cases hr
    | cons e ds =>
      rw [List.map_cons] at hr
      unfold Reps at hr
      obtain ⟨u, r, z, q, t⟩ := hr
      injection z with z1 z2
      subst z1 z2
      rw [List.map_cons, List.map_cons]
      refine Reps.cons ?_ (repl_reps hd n h2 t)
      by_cases e : k = n
      · subst e; rw [if_pos rfl, if_pos h1]; exact hd
      · rw [if_neg e, if_neg (by rw [h1]; exact fun z => e (by injection z))]; exact q
theorem put_keys {kvs : List (Key × V)} {ks : List Int} (h : kvs.map (·.1) = ks.map Sum.inl) (n : Int) (v : V) : (putK kvs (Sum.inl n) v).map (·.1) = (putKs ks n).map Sum.inl := by
  unfold putK putKs
  rw [any_keys h]
  by_cases hn : n ∈ ks
  · rw [decide_eq_true hn, if_pos rfl, if_pos hn, repl_keys, h]
  · rw [decide_eq_false hn, if_neg Bool.false_ne_true, if_neg hn, List.map_append, List.map_append, h]; rfl
theorem put_reps {K : PySem.W.Frag} {G : Hp} {kvs : List (Key × V)} {ks : List Int} {ds : List Dm} {d : Dm} {v : V} (h : kvs.map (·.1) = ks.map Sum.inl) (hr : Reps K G ds (kvs.map (·.2))) (n : Int) (hd : Rep K G d v) : Reps K G (putDs ks ds n d) ((putK kvs (Sum.inl n) v).map (·.2)) := by
  unfold putK putDs
  rw [any_keys h]
  by_cases hn : n ∈ ks
  · rw [decide_eq_true hn, if_pos rfl, if_pos hn]; exact repl_reps hd n h hr
  · rw [decide_eq_false hn, if_neg Bool.false_ne_true, if_neg hn, List.map_append]; exact hr.append (Reps.cons hd Reps.nil)
theorem ints_of {κ : Type} {kvs : List (Key × κ)} {ks : List Int} (h : kvs.map (·.1) = ks.map Sum.inl) : ∀ kv ∈ kvs, ∃ i, kv.1 = Sum.inl i := fun kv hk => by
  have : kv.1 ∈ kvs.map (·.1) := List.mem_map.mpr ⟨kv, hk, rfl⟩
  rw [h] at this
  obtain ⟨i, _, e⟩ := List.mem_map.mp this
  exact ⟨i, e.symm⟩
def sDPutX (td ty tv : TE) : TS := fun D σ H => tv σ H fun v H1 => td σ H1 fun x H2 => ty σ H2 fun y H3 => ∃ (a : Addr) (kvs : Nat × List (Key × V)) (ks : List Int) (n : Int), x = .ref a ∧ H3 a = some (DX a kvs) ∧ kvs.2.map (·.1) = ks.map Sum.inl ∧ y = .int n ∧ kvs.2.length < sizeLine ∧ ∀ ep, D.nx σ (upd H3 a (DX a (ep, putK kvs.2 (Sum.inl n) v)))
theorem ps_dputX {o i value : Expr} {pos pos' : Pos} {td ty tv : TE} (ho : PE X o td) (hi : PE X i ty) (hv : PE X value tv) (hs : swapsWith value (some (.Subscript o i pos')) pos.line X.env = pure false) :
    PS X (.Assign [.Subscript o i pos'] value pos) (sDPutX td ty tv) := by
  intro pins s σ H D I h
  refine wpAny_Assign_Subscript (thn (hv pins s σ H _ I h) fun r s1 ⟨v, H1, I1, rv, q1⟩ => thn (ho pins s1 σ H1 _ I1 q1) fun u s2 ⟨x, H2, I2, rx, q2⟩ => thn (hi pins s2 σ H2 _ I2 q2) fun iv s3 ⟨y, H3, I3, ry, a, kvs, ks, n, ex, e, hk, ey, l, q3⟩ => ?_) hs
  subst ex ey
  obtain rfl : u = Value.ref a := rx
  obtain ⟨⟨z, hd, vs, rel, q⟩, _⟩ := rd_of I3.hok (.inl e)
  have hz : vs.length ≤ sizeLine := by rw [← rel.length]; exact z
  have hl : (putK kvs.2 (Sum.inl n) v).length ≤ sizeLine := by have := length_putK kvs.2 (Sum.inl n) v; omega
  refine wpAny_setItem_pairs (hsz := hz) (kV_is (P := X.prog) (w := X.w) (k := Sum.inl n) ry) (q X.prog X.w).dictOf fun h' dd' hs => ?_
  have he : ∃ q, h'.get? a = some q := let ⟨q, _, _, hq, _⟩ := dd'; ⟨q, hq⟩
  have rel' := rel.put (Sum.inl n) rv
  obtain ⟨ep, q'⟩ := dx_of (ints_of (ks := putKs ks n) (by rw [← rel'.keys]; exact put_keys hk n v)) dd'
  exact ⟨σ, _, d_write I3 (by rw [e]; exact True.intro) hs he (dx_ok (x := (ep, putK kvs.2 (Sum.inl n) v)) hl hd rel' q'), q3 ep⟩
theorem Sim.writeD {K : PySem.W.Frag} {B G0 G H : Hp} {δ : List Sl} {σ : L2.St} (S : Sim K B G0 G δ σ H) {i : Nat} {ks ks' : List Int} {ds es : List Dm} {p : Addr} {kvs : Nat × List (Key × V)} (h : δ[i]? = some (.od ks ds)) (hp : σ[i]? = some (some (.ref p))) (only : ∀ j s, δ[j]? = some s → ((∃ ks ds, s = .od ks ds) ∨ ∃ ks ds, s = .oT ks ds) → j = i) (hk : kvs.2.map (·.1) = ks'.map Sum.inl) (r : Reps K G es (kvs.2.map (·.2))) : Sim K B G0 G (δ.set i (.od ks' es)) σ (upd H p (DX p kvs)) := by
  obtain ⟨p', xs, e1, e2, e3, e4, _⟩ := S.slot i _ h
  rw [hp] at e1
  obtain rfl : p = p' := by injection e1 with e1; injection e1 with e1; injection e1
  have hlt : i < δ.length := (List.getElem?_eq_some_iff.mp h).1
  have own : ∀ (j : Nat) (t : Sl), (δ.set i (.od ks' es))[j]? = some t → (j = i ∧ t = .od ks' es) ∨ (j ≠ i ∧ δ[j]? = some t) := fun j t h => by
    by_cases hj : j = i
    · subst hj
      rw [List.getElem?_set_self hlt] at h
      exact .inl ⟨rfl, (Option.some.inj h).symm⟩
    · rw [List.getElem?_set_ne (Ne.symm hj)] at h
      exact .inr ⟨hj, h⟩
  refine ⟨by rw [List.length_set, S.len], fun b u e => ?_, S.g0, fun b u e => ?_, S.gb, fun j t hj => ?_, fun a b fs gs q hab ha hb ea eb => ?_⟩
  · rw [upd_ne (ne_of_none e e4)]; exact S.bh b u e
  · rw [upd_ne (ne_of_none e e3)]; exact S.gh b u e
  · rcases own j t hj with ⟨rfl, rfl⟩ | ⟨n, h1⟩
    · exact ⟨p, kvs, hp, upd_same, e3, e4, hk, r⟩
    · have z := S.slot j t h1
      cases t with
      | un => trivial
      | sh d => exact z
      | ow fs =>
        obtain ⟨q, zs, f1, f2, rr⟩ := z
        exact ⟨q, zs, f1, by rw [upd_ne (by rintro rfl; rw [e2] at f2; cases f2)]; exact f2, rr⟩
      | so C d => exact z
      | pt p' k d => exact z
      | xc C => exact z
      | od ks2 ds2 => exact absurd (only j _ h1 (.inl ⟨_, _, rfl⟩)) n
      | oT ks2 ds2 => exact absurd (only j _ h1 (.inr ⟨_, _, rfl⟩)) n
  · have h1 : δ[a]? = some (.ow fs) := by
      rcases own a _ ha with ⟨_, z⟩ | ⟨_, h1⟩
      · cases z
      · exact h1
    have h2 : δ[b]? = some (.ow gs) := by
      rcases own b _ hb with ⟨_, z⟩ | ⟨_, h2⟩
      · cases z
      · exact h2
    exact S.disj a b _ _ q hab h1 h2 ea eb
def onlyD (i : Nat) (δ : List Sl) : Prop := ∀ j s, δ[j]? = some s → ((∃ ks ds, s = Sl.od ks ds) ∨ ∃ ks ds, s = Sl.oT ks ds) → j = i
open Classical in
def gPut (i : Nat) (fk fe : EF) : SF := fun δ => match δ[i]? with
  | some (.od ks ds) => (fz fe δ).bind fun r => (dt fk δ).bind fun kd => kd.int?.bind fun n => if r.isSh = true ∧ ks.length < sizeLine ∧ onlyD i δ then some (.nx (δ.set i (.od (putKs ks n) (putDs ks ds n r.dat)))) else none
  | _ => none
theorem od_at {i : Nat} {δ : List Sl} {P : List Int → List Dm → Option Fl} {fl : Fl} (e : (match δ[i]? with | some (.od ks ds) => P ks ds | _ => none) = some fl) : ∃ ks ds, δ[i]? = some (.od ks ds) ∧ P ks ds = some fl := by
  cases q : δ[i]? with
  | none => rw [q] at e; cases e
  | some s =>
    rw [q] at e
    cases s with
    | od ks ds => exact ⟨ks, ds, rfl, e⟩
    | un => cases e
    | sh d => cases e
    | ow ds => cases e
    | so C d => cases e
    | pt p k d => cases e
    | xc C => cases e
    | oT ks ds => cases e
open Classical in
theorem psd_put (i : Nat) {x : Str} {ek ee : Expr} {fk fe : EF} {p pos pos' : Pos} (hv : PE X (.Name x p) (tVar i)) (hk : PD X ek fk) (he : PD X ee fe) (hs : swapsWith ee (some (.Subscript (.Name x p) ek pos')) pos.line X.env = pure false := by rfl) :
    PSD X (.Assign [.Subscript (.Name x p) ek pos'] ee pos) (gPut i fk fe) := PS.imp (ps_dputX hv hk.fz he.fz hs) fun D σ H h => by
  obtain ⟨B, G0, G, δ, fl, S, e, k⟩ := h
  obtain ⟨ks, ds, hd, e⟩ := od_at (P := fun ks ds => (fz fe δ).bind fun r => (dt fk δ).bind fun kd => kd.int?.bind fun n => if r.isSh = true ∧ ks.length < sizeLine ∧ onlyD i δ then some (.nx (δ.set i (.od (putKs ks n) (putDs ks ds n r.dat)))) else none) e
  obtain ⟨r, er, e⟩ := Option.bind_eq_some_iff.mp e
  obtain ⟨kd, ek', e⟩ := Option.bind_eq_some_iff.mp e
  obtain ⟨rk, erk, rfl⟩ := dt_some ek'
  obtain ⟨n, en, e⟩ := Option.bind_eq_some_iff.mp e
  by_cases hc : r.isSh = true ∧ ks.length < sizeLine ∧ onlyD i δ
  case neg => rw [if_neg hc] at e; cases e
  rw [if_pos hc] at e
  cases e
  obtain ⟨hsh, hlen, honly⟩ := hc
  refine ⟨B, G0, G, δ, r, S, er, fun v G1 H1 S1 g1 q1 => ?_⟩
  obtain ⟨pp, kvs, e1, e2, e3, e4, kk, rr⟩ := S1.slot i _ hd
  refine ⟨_, e1, B, G0, G1, δ, rk.fz, S1, fz_some erk, fun y G2 H2 S2 g2 q2 => ?_⟩
  have r2 := RsR.rep S2 q2
  rw [Rs.fz_dat, int_some en] at r2
  unfold Rep at r2
  obtain ⟨pp2, kvs2, e1', e2', e3', e4', kk', rr'⟩ := S2.slot i _ hd
  rw [e1] at e1'
  obtain rfl : pp = pp2 := by injection e1' with e1'; injection e1' with e1'; injection e1'
  have hl : kvs2.2.length < sizeLine := by
    have := congrArg List.length kk'
    rw [List.length_map, List.length_map] at this
    omega
  cases r with
  | sh d =>
    have hq : Rep X.K G2 d v := Rep.mono g2.gg q1
    exact ⟨pp, kvs2, ks, n, rfl, e2', kk', r2, hl, fun ep => k G2 σ _ (S2.writeD hd e1 honly (put_keys kk' n v) (put_reps kk' rr' n hq)) (g1.gg.trans g2.gg)⟩
  | ow _ => exact absurd (show false = true from hsh) Bool.false_ne_true
  | al _ _ => exact absurd (show false = true from hsh) Bool.false_ne_true
  | ft _ _ => exact absurd (show false = true from hsh) Bool.false_ne_true
  | od _ _ => exact absurd (show false = true from hsh) Bool.false_ne_true
def gRetD (i : Nat) : SF := fun δ => match δ[i]? with
  | some (.od ks ds) => some (.rt (.od ks ds))
  | _ => none
theorem psd_retD (i : Nat) {x : Str} {p pos : Pos} (hv : PE X (.Name x p) (tVar i)) : PSD X (.Return (some (.Name x p)) pos) (gRetD i) := PS.imp (ps_ret hv) fun D σ H h => by
  obtain ⟨B, G0, G, δ, fl, S, e, k⟩ := h
  obtain ⟨ks, ds, hd, e⟩ := od_at (P := fun ks ds => some (.rt (.od ks ds))) e
  cases e
  obtain ⟨pp, kvs, e1, e2, e3, e4, kk, rr⟩ := S.slot i _ hd
  exact ⟨_, e1, k δ G σ H _ S (Same.refl G) ⟨pp, kvs, rfl, e2, e3, e4, kk, rr⟩⟩
def lookD : List Int → List Dm → Int → Option Dm
  | k :: ks, d :: ds, n => if k = n then some d else lookD ks ds n
  | _, _, _ => none
theorem look_val {K : PySem.W.Frag} {G : Hp} {n : Int} {d : Dm} : ∀ {kvs : List (Key × V)} {ks : List Int} {ds : List Dm}, kvs.map (·.1) = ks.map Sum.inl → Reps K G ds (kvs.map (·.2)) → lookD ks ds n = some d → ∃ v, valV kvs (Sum.inl n) = some v ∧ Rep K G d v
  | [], [], ds, _, _, e => by cases e
  | [], k :: ks, ds, h, _, _ => by cases h
  | kv :: kvs, [], ds, h, _, _ => by cases h
  | kv :: kvs, k :: ks, [], _, _, e => by cases e
  | kv :: kvs, k :: ks, d' :: ds, h, hr, e => by
    rw [List.map_cons, List.map_cons] at h
    injection h with h1 h2
    rw [List.map_cons] at hr
    unfold Reps at hr
    obtain ⟨u, r, z, q, t⟩ := hr
    injection z with z1 z2
    subst z1 z2
    unfold lookD at e
    by_cases hk : k = n
    · subst hk
      rw [if_pos rfl] at e
      cases e
      exact ⟨kv.2, valV_pos h1, q⟩
    · rw [if_neg hk] at e
      rw [valV_neg (by rw [h1]; exact fun z => hk (by injection z))]
      exact look_val h2 t e
theorem RsR.dct {K : PySem.W.Frag} {B' G H : Hp} {δ : List Sl} {σ : L2.St} {r : Rs} {v : V} {ks : List Int} {ds : List Dm} (h : RsR K B' G H δ σ r.fz v) (e : r.dat = .dct ks ds) : ∃ a kvs, v = .ref a ∧ G a = some (DX a kvs) ∧ kvs.2.map (·.1) = ks.map Sum.inl ∧ Reps K G ds (kvs.2.map (·.2)) := by
  cases r with
  | sh d =>
    obtain rfl : d = .dct ks ds := e
    have h' : Rep K G (.dct ks ds) v := h
    unfold Rep at h'
    exact h'
  | od ks2 ds2 =>
    cases e
    have h' : Rep K G (.dct ks ds) v := h
    unfold Rep at h'
    exact h'
  | ow _ => cases e
  | al _ _ => cases e
  | ft _ _ => cases e
def tDGetX (td ty : TE) : TE := fun σ H Q => td σ H fun x H1 => ty σ H1 fun y H2 => ∃ (a : Addr) (kvs : Nat × List (Key × V)) (n : Int) (v : V), x = .ref a ∧ H2 a = some (DX a kvs) ∧ y = .int n ∧ valV kvs.2 (Sum.inl n) = some v ∧ Q v H2
theorem pe_dgetX {o i : Expr} {pos : Pos} {td ty : TE} (ho : PE X o td) (hi : PE X i ty) (hs : NoSl i) : PE X (.Subscript o i pos) (tDGetX td ty) := by
  intro pins s σ H Q I h
  refine subD_of PySem.F.slot_dict_getitem.lookup hs (thn (ho pins s σ H _ I h) fun u s1 ⟨x, H1, I1, rx, q1⟩ => thn (hi pins s1 σ H1 _ I1 q1) fun iv s2 ⟨y, H2, I2, ry, a, kvs, n, v, ex, e, ey, l, q2⟩ => ?_)
  subst ex ey
  obtain rfl : u = Value.ref a := rx
  obtain ⟨⟨z, hd, vs, rel, q⟩, _⟩ := rd_of I2.hok (.inl e)
  have dd := (q X.prog X.w).dictOf
  obtain ⟨w', hw, rw'⟩ := RelO.some_of (v := v) (o := valueAt vs (Sum.inl n)) (by rw [← l]; exact rel.val (Sum.inl n))
  exact ⟨dd.typeIs, wpAny_getItem_of (kV_is (P := X.prog) (w := X.w) (k := Sum.inl n) ry) dd.mapOf hw ⟨v, H2, I2.tok _, rw', q2⟩⟩
def fDGet (fa fb : EF) : EF := fun δ => (dt fa δ).bind fun a => (dt fb δ).bind fun b => b.int?.bind fun n => (match a with | .dct ks ds => lookD ks ds n | _ => none).map .sh
theorem pd_dget {a b : Expr} {pos : Pos} {fa fb : EF} (ha : PD X a fa) (hb : PD X b fb) (hs : NoSl b := by intro _ _; rfl) : PD X (.Subscript a b pos) (fDGet fa fb) := PE.imp (pe_dgetX ha.fz hb.fz hs) fun σ H Q h => by
  obtain ⟨B, G0, G, δ, r0, S, e, k⟩ := h
  obtain ⟨a, ea, e⟩ := Option.bind_eq_some_iff.mp e
  obtain ⟨b, eb, e⟩ := Option.bind_eq_some_iff.mp e
  obtain ⟨ra, era, rfl⟩ := dt_some ea
  obtain ⟨rb, erb, rfl⟩ := dt_some eb
  obtain ⟨n, en, e⟩ := Option.bind_eq_some_iff.mp e
  obtain ⟨d, ed, e⟩ := Option.map_eq_some_iff.mp e
  subst e
  refine run1 ⟨S, k⟩ era fun x G1 H1 k1 g1 q1 => run1 k1 erb fun y G2 H2 k2 g2 q2 => ?_
  have r2 := RsR.rep k2.sim q2
  rw [Rs.fz_dat, int_some en] at r2
  unfold Rep at r2
  have q1' := q1.mono (H' := H2) (B'' := H2) ra.fz_still g2.gg
  cases hd : ra.dat with
  | dct ks ds =>
    rw [hd] at ed
    obtain ⟨a, kvs, rfl, hq, kk, rr⟩ := RsR.dct q1' hd
    obtain ⟨v, hv, rv⟩ := look_val kk rr ed
    exact ⟨a, kvs, n, v, rfl, k2.sim.gh _ _ hq, r2, hv, k2.now rv⟩
  | non => rw [hd] at ed; cases ed
  | bl b => rw [hd] at ed; cases ed
  | int j => rw [hd] at ed; cases ed
  | str z => rw [hd] at ed; cases ed
  | lst ds => rw [hd] at ed; cases ed
  | tup ds => rw [hd] at ed; cases ed
end
end BF
set_option Elab.async false
set_option linter.all false
set_option maxRecDepth 100000
set_option maxHeartbeats 4000000
namespace BF
open PySem PySem.Spec PyProof.Rows L2
noncomputable section
variable {X : Cx}
end
end BF
set_option Elab.async false
set_option linter.all false
set_option maxRecDepth 100000
set_option maxHeartbeats 4000000
namespace BF
open PySem PySem.Spec PyProof.Rows L2
noncomputable section
variable {X : Cx}
end
end BF
set_option Elab.async false
set_option linter.all false
set_option maxRecDepth 100000
set_option maxHeartbeats 4000000
namespace BF
open PySem PySem.Spec PyProof.Rows L2
noncomputable section
variable {X : Cx}
end
end BF
set_option Elab.async false
set_option linter.all false
set_option maxRecDepth 100000
set_option maxHeartbeats 4000000
namespace BF
open PySem PySem.Spec PyProof.Rows L2
noncomputable section
variable {X : Cx}
theorem ent_any {P P' : Program} {w w' : World} (x : List Key × Addr × Value) (h : ∃ ns : List Int, x.1 = ns.map Sum.inl) : entryOfKey (tupleKind (mixKind P w)) x = entryOfKey (tupleKind (mixKind P' w')) x := by
  obtain ⟨ns, e⟩ := h
  show DictEntry.mk (reduceHash (Builtin.Tuple.tupleHashOf (x.1.map (mixKind P w).hash))) _ _ = DictEntry.mk (reduceHash (Builtin.Tuple.tupleHashOf (x.1.map (mixKind P' w').hash))) _ _
  have : x.1.map (mixKind P w).hash = x.1.map (mixKind P' w').hash := by
    rw [e, List.map_map, List.map_map]; rfl
  rw [this]
abbrev PT3 := Paired (fun (p : List Key × Addr × V) (q : List Key × Addr × Value) => p.1 = q.1 ∧ p.2.1 = q.2.1 ∧ RelV p.2.2 q.2.2)
theorem pt3_keys {kvs : List (List Key × Addr × V)} {xs : List (List Key × Addr × Value)} (r : PT3 kvs xs) : kvs.map (·.1) = xs.map (·.1) := by
  induction r with
  | nil => rfl
  | cons h t ih => rw [List.map_cons, List.map_cons, ih, h.1]
theorem tx_ok {P : Program} {w : World} {H : Hp} {h : Heap} {a : Addr} {kvs : List (List Key × Addr × V)} (l : kvs.length ≤ sizeLine) (hd : (a == sysModules) = false) {xs : List (List Key × Addr × Value)} (r : PT3 kvs xs) {ks : List (List Int)} (hk : kvs.map (·.1) = ks.map (List.map Sum.inl))
    (q : ∃ o es ep, h.get? a = some o ∧ o.ExactDict ∧ o.data = .dict es ep ∧ es.toList = xs.map (entryOfKey (tupleKind (mixKind P w))) ∧ (xs.map (·.1)).Nodup) : ObjOk P w H h a (TX a kvs) := by
  obtain ⟨o, es, ep, h1, h2, h3, h4, h5⟩ := q
  refine ⟨⟨l, hd, xs, r, o, es, ep, h1, h2, h3, fun P' w' => ?_, h5⟩, ⟨o, h1⟩, fun ha hb ⟨l, hd, xs, r, o, es, ep, h1, h2⟩ k => ⟨l, hd, xs, r, o, es, ep, k o h1, h2⟩⟩
  rw [h4]
  refine List.map_congr_left fun x hx => ent_any x ?_
  have : x.1 ∈ xs.map (·.1) := List.mem_map.mpr ⟨x, hx, rfl⟩
  rw [← pt3_keys r, hk] at this
  obtain ⟨ns, _, e⟩ := List.mem_map.mp this
  exact ⟨ns, e.symm⟩
def tvalV (kvs : List (List Key × Addr × V)) (k : List Key) : Option V := (kvs.find? fun e => decide (e.1 = k)).map (·.2.2)
theorem tval_rel {kvs : List (List Key × Addr × V)} {xs : List (List Key × Addr × Value)} (r : PT3 kvs xs) (k : List Key) : RelO (tvalV kvs k) ((atKey xs k).map (·.2)) := by
  induction r with
  | nil => exact True.intro
  | @cons p q ps qs h t ih =>
    obtain ⟨h1, _, h2⟩ := h
    by_cases e : p.1 = k
    · have e' : q.1 = k := h1.symm.trans e
      have b : atKey (q :: qs) k = some q.2 := by simp [atKey, List.find?_cons, e']
      have a : tvalV (p :: ps) k = some p.2.2 := by simp [tvalV, List.find?_cons, e]
      rw [a, b]; exact h2
    · have e' : ¬ q.1 = k := fun z => e (h1.trans z)
      have b : atKey (q :: qs) k = atKey qs k := by simp [atKey, List.find?_cons, e']
      have a : tvalV (p :: ps) k = tvalV ps k := by simp [tvalV, List.find?_cons, e]
      rw [a, b]; exact ih
section
variable {pins : List (Addr × Obj)} {σ : L2.St} {H : Hp} {s : Shared} {a b : Addr}
theorem key_sq (I : Inv X pins σ H s) {ks : List Key} (e : SqT X.K H b (ks.map kV)) : (tupleKind (mixKind X.prog X.w)).is s.heap ks b := by
  obtain ⟨its, r, ⟨o, h1, h2, n, h3⟩, _⟩ := I.tuple e
  exact ⟨o, its.toArray, n, h1, h2, h3, by simpa using items_are r⟩
theorem tx_of (I : Inv X pins σ H s) {kvs : List (List Key × Addr × V)} (e : H a = some (TX a kvs)) (hk : ∀ e ∈ kvs, SqT X.K H e.2.1 (e.1.map kV)) : kvs.length ≤ sizeLine ∧ (a == sysModules) = false ∧ ∃ xs, PT3 kvs xs ∧ s.heap.DictOfH (tupleKind (mixKind X.prog X.w)) a xs := by
  obtain ⟨⟨l, hd, xs, r, o, es, ep, h1, h2, h3, h4, h5⟩, _⟩ := rd_of I.hok (.inl e)
  refine ⟨l, hd, xs, r, o, es, ep, h1, h2, h3, h4 _ _, fun x hx => ?_, h5⟩
  have all : ∀ {l : List (List Key × Addr × V)} {m : List (List Key × Addr × Value)}, PT3 l m → (∀ e ∈ l, SqT X.K H e.2.1 (e.1.map kV)) → ∀ x ∈ m, (tupleKind (mixKind X.prog X.w)).is s.heap x.1 x.2.1 := by
    intro l m q
    induction q with
    | nil => intro _ x hx; exact nomatch hx
    | @cons p q ps qs hq t ih =>
      intro hk x hx
      rcases List.mem_cons.mp hx with e | hx
      · subst e
        have := key_sq I (hk p List.mem_cons_self)
        rw [hq.1, hq.2.1] at this; exact this
      · exact ih (fun e he => hk e (List.mem_cons_of_mem _ he)) x hx
  exact all r hk x hx
end
def tTNew : TE := fun _ H Q => ∀ p, H p = none → Q (.ref p) (upd H p (TX p []))
theorem pe_tnew {pos : Pos} : PE X (.Dict [] [] pos) tTNew := fun pins s σ H Q I h =>
  wpAny_Dict_empty ⟨.ref s.heap.objs.size, _, I.laid (a := s.heap.objs.size) (o := TX s.heap.objs.size []) (t' := s.toks) (fun _ _ q => Heap.get?_push_of_some _ q) (Nat.le_refl _) (tx_ok (Nat.zero_le _) (beq_eq_false_iff_ne.mpr (Ne.symm (Nat.ne_of_lt I.big))) .nil (ks := []) rfl ⟨_, #[], 0, Heap.get?_push_size _ rfl, ⟨rfl, rfl, rfl⟩, rfl, rfl, List.nodup_nil⟩), rfl, h _ (I.hok.fresh (Nat.le_refl _))⟩
def gNewT (i : Nat) : SF := fun δ => some (.nx (δ.set i (.oT [] [])))
theorem psd_newT {i : Nat} {x : Str} {p1 pos pos' : Pos} (hN : X.N.Nodup) (hi : X.N[i]? = some x) (hx : Loc X.env.scope x) (hs : swapsWith (.Dict [] [] p1) (some (.Name x pos')) pos.line X.env = pure false := by rfl) (hf : X.fn x = true ∨ X.env.scope.names.lookup x = some .local := by first | exact .inl rfl | exact .inr rfl | assumption) : PSD X (.Assign [.Name x pos'] (.Dict [] [] p1) pos) (gNewT i) :=
  PS.imp (ps_set hN hi hx pe_tnew hs hf) fun D σ H q => by
    obtain ⟨B, G0, G, δ, fl, S, e, k⟩ := q
    cases e
    exact fun p hp => k G _ _ ((S.grow (Same.upd_new hp)).set i (s := .oT [] []) ⟨p, [], rfl, upd_same, S.g_free hp, S.b_free hp, ⟨rfl, (fun e he => by cases he), Reps.nil⟩⟩ fun _ _ z => by cases z) (Same.refl G)
def Dm.key? : Dm → Option (List Int)
  | .tup ds => ints? ds
  | _ => none
theorem key_some {d : Dm} {ns : List Int} (e : d.key? = some ns) : d = .tup (ns.map .int) := by
  cases d with
  | tup ds => rw [ints_some (show ints? ds = some ns from e)]
  | _ => cases e
theorem rep_key {K : PySem.W.Frag} {G : Hp} {ns : List Int} {v : V} (h : Rep K G (.tup (ns.map .int)) v) : ∃ b, v = .ref b ∧ SqT K G b ((ns.map Sum.inl : List Key).map kV) := by
  unfold Rep at h
  obtain ⟨b, xs, e, q, r⟩ := h
  refine ⟨b, e, ?_⟩
  rw [reps_ints r] at q
  rw [List.map_map]
  exact q
theorem oT_at {i : Nat} {δ : List Sl} {α : Type} {P : List (List Int) → List Dm → Option α} {fl : α} (e : (match δ[i]? with | some (.oT ks ds) => P ks ds | _ => none) = some fl) : ∃ ks ds, δ[i]? = some (.oT ks ds) ∧ P ks ds = some fl := by
  cases q : δ[i]? with
  | none => rw [q] at e; cases e
  | some s =>
    rw [q] at e
    cases s with
    | oT ks ds => exact ⟨ks, ds, rfl, e⟩
    | _ => cases e
def tTNin (ty td : TE) (K : PySem.W.Frag) : TE := fun σ H Q => ty σ H fun y H1 => td σ H1 fun x H2 => ∃ a b kvs k, x = .ref a ∧ y = .ref b ∧ H2 a = some (TX a kvs) ∧ (∀ e ∈ kvs, SqT K H2 e.2.1 (e.1.map kV)) ∧ SqT K H2 b (k.map kV) ∧ Q (.bl (!(tvalV kvs k).isSome)) H2
theorem pc_tnin {i o : Expr} {ty td : TE} (hu : X.A.units + 1 < cLine) (hi : PE X i ty) (ho : PE X o td) : PC X .NotIn i o (tTNin ty td X.K) := by
  intro pins s σ H Q I h
  refine thn (hi pins s σ H _ I h) fun iv s1 ⟨y, H1, I1, ry, q1⟩ => thn (ho pins s1 σ H1 _ I1 q1) fun u s2 ⟨x, H2, I2, rx, a, b, kvs, k, ex, ey, e, hk, hb, q2⟩ => ?_
  subst ex ey
  obtain rfl : u = Value.ref a := rx
  obtain rfl : iv = Value.ref b := ry
  obtain ⟨l, hd, xs, rel, dd⟩ := tx_of I2 e hk
  refine wpAny_notIn_heap (tupleKind_room_in1 hu) (key_sq I2 hb) hd dd ?_
  have q := (tval_rel rel k).isSome_eq
  rw [Option.isSome_map] at q
  rw [← q]
  exact ⟨.bl (!(tvalV kvs k).isSome), H2, I2.tok _, rfl, q2⟩
def hasT : List (List Int) → List Int → Bool
  | [], _ => false
  | k :: ks, n => if k = n then true else hasT ks n
def bNinT (f : EF) (i : Nat) : BF' := fun δ => match δ[i]? with
  | some (.oT ks ds) => (dt f δ).bind fun d => d.key?.map fun n => !hasT ks n
  | _ => none
theorem inl_inj : ∀ {a b : List Int}, (a.map Sum.inl : List Key) = b.map Sum.inl → a = b
  | [], [], _ => rfl
  | [], _ :: _, e => by cases e
  | _ :: _, [], e => by cases e
  | x :: a, y :: b, e => by
    rw [List.map_cons, List.map_cons] at e
    injection e with e1 e2
    rw [inl_inj e2, Sum.inl.inj e1]
theorem has_val : ∀ {kvs : List (List Key × Addr × V)} {ks : List (List Int)} (n : List Int), kvs.map (·.1) = ks.map (List.map Sum.inl) → (tvalV kvs (n.map Sum.inl)).isSome = hasT ks n
  | [], [], n, _ => rfl
  | [], _ :: _, n, h => by cases h
  | _ :: _, [], n, h => by cases h
  | kv :: kvs, k :: ks, n, h => by
    rw [List.map_cons, List.map_cons] at h
    injection h with h1 h2
    unfold hasT
    by_cases e : k = n
    · subst e
      rw [if_pos rfl]
      simp [tvalV, List.find?_cons, h1]
    · rw [if_neg e, ← has_val n h2]
      have : ¬ kv.1 = (n.map Sum.inl : List Key) := fun z => e (inl_inj (h1.symm.trans z))
      simp [tvalV, List.find?_cons, this]
theorem ptd_ninT (i : Nat) {a : Expr} {f : EF} {x : Str} {p pos : Pos} (hu : X.A.units + 64 < cLine) (ha : PD X a f) (hv : PE X (.Name x p) (tVar i)) (hm : behindInMarks .NotIn (.Name x p) = false := by rfl) : PTD X (.Compare a [.NotIn] [.Name x p] pos) (bNinT f i) :=
  PT.imp (pt_cmp (pc_tnin (by omega) ha.fz hv) hm) fun σ H Q q => by
    obtain ⟨B, G0, G, δ, c, S, e, k⟩ := q
    obtain ⟨ks, ds, hd, e⟩ := oT_at (P := fun ks ds => (dt f δ).bind fun d => d.key?.map fun n => !hasT ks n) e
    obtain ⟨d, ed, e⟩ := Option.bind_eq_some_iff.mp e
    obtain ⟨r, er, rfl⟩ := dt_some ed
    obtain ⟨n, en, e⟩ := Option.map_eq_some_iff.mp e
    subst e
    refine ⟨B, G0, G, δ, r.fz, S, fz_some er, fun y G1 H1 S1 g1 q1 => ?_⟩
    have r1 := RsR.rep S1 q1
    rw [Rs.fz_dat, key_some en] at r1
    obtain ⟨b, rfl, hb⟩ := rep_key r1
    obtain ⟨pp, kvs, e1, e2, e3, e4, kk⟩ := S1.slot i _ hd
    exact ⟨_, e1, pp, b, kvs, n.map Sum.inl, rfl, rfl, e2, fun e he => Same.seqT S1.gh (kk.tups e he), hb, _, rfl, by rw [has_val n kk.keys]; exact k G1 H1 S1 g1⟩
def tTGet (td ty : TE) (K : PySem.W.Frag) : TE := fun σ H Q => td σ H fun x H1 => ty σ H1 fun y H2 => ∃ a b kvs k v, x = .ref a ∧ y = .ref b ∧ H2 a = some (TX a kvs) ∧ (∀ e ∈ kvs, SqT K H2 e.2.1 (e.1.map kV)) ∧ SqT K H2 b (k.map kV) ∧ tvalV kvs k = some v ∧ Q v H2
theorem pe_tget {o i : Expr} {pos : Pos} {td ty : TE} (hu : X.A.units + 1 < cLine) (ho : PE X o td) (hi : PE X i ty) (hs : NoSl i) : PE X (.Subscript o i pos) (tTGet td ty X.K) := by
  intro pins s σ H Q I h
  refine subD_of PySem.F.slot_dict_getitem.lookup hs (thn (ho pins s σ H _ I h) fun u s1 ⟨x, H1, I1, rx, q1⟩ => thn (hi pins s1 σ H1 _ I1 q1) fun iv s2 ⟨y, H2, I2, ry, a, b, kvs, k, v, ex, ey, e, hk, hb, l, q2⟩ => ?_)
  subst ex ey
  obtain rfl : u = Value.ref a := rx
  obtain rfl : iv = Value.ref b := ry
  obtain ⟨z, hd, xs, rel, dd⟩ := tx_of I2 e hk
  obtain ⟨w', hw, rw'⟩ := RelO.some_of (v := v) (o := (atKey xs k).map (·.2)) (by rw [← l]; exact tval_rel rel k)
  obtain ⟨p, hp, hp2⟩ := Option.map_eq_some_iff.mp hw
  refine ⟨dd.typeIs, wpAny_getItem_heap (tupleKind_room_in1 hu) (key_sq I2 hb) dd hp ?_⟩
  rw [hp2]
  exact ⟨v, H2, I2.tok _, rw', q2⟩
def lookT : List (List Int) → List Dm → List Int → Option Dm
  | k :: ks, d :: ds, n => if k = n then some d else lookT ks ds n
  | _, _, _ => none
theorem lookT_val {K : PySem.W.Frag} {G : Hp} {n : List Int} {d : Dm} : ∀ {kvs : List (List Key × Addr × V)} {ks : List (List Int)} {ds : List Dm}, kvs.map (·.1) = ks.map (List.map Sum.inl) → Reps K G ds (kvs.map (·.2.2)) → lookT ks ds n = some d → ∃ v, tvalV kvs (n.map Sum.inl) = some v ∧ Rep K G d v
  | [], [], ds, _, _, e => by cases e
  | [], k :: ks, ds, h, _, _ => by cases h
  | kv :: kvs, [], ds, h, _, _ => by cases h
  | kv :: kvs, k :: ks, [], _, _, e => by cases e
  | kv :: kvs, k :: ks, d' :: ds, h, hr, e => by
    rw [List.map_cons, List.map_cons] at h
    injection h with h1 h2
    rw [List.map_cons] at hr
    unfold Reps at hr
    obtain ⟨u, r, z, q, t⟩ := hr
    injection z with z1 z2
    subst z1 z2
    unfold lookT at e
    by_cases hk : k = n
    · subst hk
      rw [if_pos rfl] at e
      cases e
      exact ⟨kv.2.2, by simp [tvalV, List.find?_cons, h1], q⟩
    · rw [if_neg hk] at e
      obtain ⟨v, hv, rv⟩ := lookT_val h2 t e
      have : ¬ kv.1 = (n.map Sum.inl : List Key) := fun z => hk (inl_inj (h1.symm.trans z))
      exact ⟨v, by rw [← hv]; simp [tvalV, List.find?_cons, this], rv⟩
def fTGet (i : Nat) (f : EF) : EF := fun δ => match δ[i]? with
  | some (.oT ks ds) => (dt f δ).bind fun d => d.key?.bind fun n => (lookT ks ds n).map .sh
  | _ => none
theorem pd_tget (i : Nat) {a : Expr} {f : EF} {x : Str} {p pos : Pos} (hu : X.A.units + 64 < cLine) (hv : PE X (.Name x p) (tVar i)) (ha : PD X a f) (hs : NoSl a := by intro _ _; rfl) : PD X (.Subscript (.Name x p) a pos) (fTGet i f) :=
  PE.imp (pe_tget (by omega) hv ha.fz hs) fun σ H Q q => by
    obtain ⟨B, G0, G, δ, c, S, e, k⟩ := q
    obtain ⟨ks, ds, hd, e⟩ := oT_at (P := fun ks ds => (dt f δ).bind fun d => d.key?.bind fun n => (lookT ks ds n).map Rs.sh) e
    obtain ⟨d, ed, e⟩ := Option.bind_eq_some_iff.mp e
    obtain ⟨r, er, rfl⟩ := dt_some ed
    obtain ⟨n, en, e⟩ := Option.bind_eq_some_iff.mp e
    obtain ⟨d', ed', e⟩ := Option.map_eq_some_iff.mp e
    subst e
    obtain ⟨pp0, _, e0, _⟩ := S.slot i _ hd
    refine ⟨_, e0, B, G0, G, δ, r.fz, S, fz_some er, fun y G1 H1 S1 g1 q1 => ?_⟩
    have r1 := RsR.rep S1 q1
    rw [Rs.fz_dat, key_some en] at r1
    obtain ⟨b, rfl, hb⟩ := rep_key r1
    obtain ⟨pp, kvs, e1, e2, e3, e4, kk⟩ := S1.slot i _ hd
    rw [e0] at e1
    obtain rfl : pp0 = pp := by injection e1 with e1; injection e1 with e1; injection e1
    obtain ⟨v, hv, rv⟩ := lookT_val kk.keys kk.vals ed'
    exact ⟨pp0, b, kvs, n.map Sum.inl, v, rfl, rfl, e2, fun e he => Same.seqT S1.gh (kk.tups e he), hb, hv, k v G1 H1 S1 g1 rv⟩
def tput (kvs : List (List Key × Addr × V)) (k : List Key) (b : Addr) (v : V) : List (List Key × Addr × V) := if (tvalV kvs k).isSome then kvs.map (fun e => if e.1 = k then (e.1, e.2.1, v) else e) else kvs ++ [(k, b, v)]
theorem tput_length (kvs : List (List Key × Addr × V)) (k : List Key) (b : Addr) (v : V) : (tput kvs k b v).length ≤ kvs.length + 1 := by
  unfold tput
  split
  · rw [List.length_map]; omega
  · rw [List.length_append, List.length_cons, List.length_nil]; omega
theorem tput_rel {kvs : List (List Key × Addr × V)} {xs : List (List Key × Addr × Value)} (r : PT3 kvs xs) (k : List Key) {b : Addr} {y : V} {u : Value} (ry : RelV y u) : PT3 (tput kvs k b y) (storedH xs k b u) := by
  have e : (tvalV kvs k).isSome = (atKey xs k).isSome := by
    rw [(tval_rel r k).isSome_eq, Option.isSome_map]
  unfold tput storedH
  rw [e]
  by_cases q : (atKey xs k).isSome = true
  · rw [if_pos q, if_pos q]
    clear e q
    induction r with
    | nil => exact .nil
    | @cons p q ps qs h t ih =>
      rw [List.map_cons, List.map_cons]
      refine .cons ?_ ih
      obtain ⟨h1, h2, h3⟩ := h
      unfold putAt
      by_cases e : p.1 = k
      · rw [if_pos e, if_pos (h1.symm.trans e)]; exact ⟨h1, h2, ry⟩
      · rw [if_neg e, if_neg (fun z => e (h1.trans z))]; exact ⟨h1, h2, h3⟩
  · rw [if_neg q, if_neg q]; exact Paired.snoc r ⟨rfl, rfl, ry⟩
def sTPut (td ty tv : TE) (K : PySem.W.Frag) : TS := fun D σ H => tv σ H fun v H1 => td σ H1 fun x H2 => ty σ H2 fun y H3 => ∃ (a b : Addr) (kvs : List (List Key × Addr × V)) (k : List Key) (ks : List (List Int)), x = .ref a ∧ y = .ref b ∧ H3 a = some (TX a kvs) ∧ (∀ e ∈ kvs, SqT K H3 e.2.1 (e.1.map kV)) ∧ SqT K H3 b (k.map kV) ∧ (tput kvs k b v).map (·.1) = ks.map (List.map Sum.inl) ∧ kvs.length < sizeLine ∧ D.nx σ (upd H3 a (TX a (tput kvs k b v)))
theorem ps_tput {o i value : Expr} {pos pos' : Pos} {td ty tv : TE} (hu : X.A.units + 1 < cLine) (ho : PE X o td) (hi : PE X i ty) (hv : PE X value tv) (hs : swapsWith value (some (.Subscript o i pos')) pos.line X.env = pure false) :
    PS X (.Assign [.Subscript o i pos'] value pos) (sTPut td ty tv X.K) := by
  intro pins s σ H D I h
  refine wpAny_Assign_Subscript (thn (hv pins s σ H _ I h) fun r s1 ⟨v, H1, I1, rv, q1⟩ => thn (ho pins s1 σ H1 _ I1 q1) fun u s2 ⟨x, H2, I2, rx, q2⟩ => thn (hi pins s2 σ H2 _ I2 q2) fun iv s3 ⟨y, H3, I3, ry, a, b, kvs, k, ks, ex, ey, e, hk, hb, hks, l, q3⟩ => ?_) hs
  subst ex ey
  obtain rfl : u = Value.ref a := rx
  obtain rfl : iv = Value.ref b := ry
  obtain ⟨z, hd, xs, rel, dd⟩ := tx_of I3 e hk
  have hz : xs.length ≤ sizeLine := by rw [← Paired.length rel]; exact z
  have hl : (tput kvs k b v).length ≤ sizeLine := by have := tput_length kvs k b v; omega
  refine wpAny_setItem_heap (hsz := hz) (tupleKind_room_in1 hu) (key_sq I3 hb) dd fun h' dd' hs => ?_
  obtain ⟨q, es, ep, hq, h2, h3, h4, _, h5⟩ := dd'
  exact ⟨σ, _, d_write I3 (by rw [e]; exact True.intro) hs ⟨q, hq⟩ (tx_ok hl hd (tput_rel rel k rv) hks ⟨q, es, ep, hq, h2, h3, h4, h5⟩), q3⟩
theorem Sim.writeT {K : PySem.W.Frag} {B G0 G H : Hp} {δ : List Sl} {σ : L2.St} (S : Sim K B G0 G δ σ H) {i : Nat} {ks ks' : List (List Int)} {ds es : List Dm} {p : Addr} {kvs : List (List Key × Addr × V)} (h : δ[i]? = some (.oT ks ds)) (hp : σ[i]? = some (some (.ref p))) (only : onlyD i δ) (r : KTs K G kvs ks' es) : Sim K B G0 G (δ.set i (.oT ks' es)) σ (upd H p (TX p kvs)) := by
  obtain ⟨p', xs, e1, e2, e3, e4, _⟩ := S.slot i _ h
  rw [hp] at e1
  obtain rfl : p = p' := by injection e1 with e1; injection e1 with e1; injection e1
  have hlt : i < δ.length := (List.getElem?_eq_some_iff.mp h).1
  have own : ∀ (j : Nat) (t : Sl), (δ.set i (.oT ks' es))[j]? = some t → (j = i ∧ t = .oT ks' es) ∨ (j ≠ i ∧ δ[j]? = some t) := fun j t h => by
    by_cases hj : j = i
    · subst hj
      rw [List.getElem?_set_self hlt] at h
      exact .inl ⟨rfl, (Option.some.inj h).symm⟩
    · rw [List.getElem?_set_ne (Ne.symm hj)] at h
      exact .inr ⟨hj, h⟩
  refine ⟨by rw [List.length_set, S.len], fun b u e => ?_, S.g0, fun b u e => ?_, S.gb, fun j t hj => ?_, fun a b fs gs q hab ha hb ea eb => ?_⟩
  · rw [upd_ne (ne_of_none e e4)]; exact S.bh b u e
  · rw [upd_ne (ne_of_none e e3)]; exact S.gh b u e
  · rcases own j t hj with ⟨rfl, rfl⟩ | ⟨n, h1⟩
    · exact ⟨p, kvs, hp, upd_same, e3, e4, r⟩
    · have z := S.slot j t h1
      cases t with
      | un => trivial
      | sh d => exact z
      | ow fs =>
        obtain ⟨q, zs, f1, f2, rr⟩ := z
        exact ⟨q, zs, f1, by rw [upd_ne (by rintro rfl; rw [e2] at f2; cases f2)]; exact f2, rr⟩
      | so C d => exact z
      | pt p' k d => exact z
      | xc C => exact z
      | od ks2 ds2 => exact absurd (only j _ h1 (.inl ⟨_, _, rfl⟩)) n
      | oT ks2 ds2 => exact absurd (only j _ h1 (.inr ⟨_, _, rfl⟩)) n
  · have h1 : δ[a]? = some (.ow fs) := by
      rcases own a _ ha with ⟨_, z⟩ | ⟨_, h1⟩
      · cases z
      · exact h1
    have h2 : δ[b]? = some (.ow gs) := by
      rcases own b _ hb with ⟨_, z⟩ | ⟨_, h2⟩
      · cases z
      · exact h2
    exact S.disj a b _ _ q hab h1 h2 ea eb
open Classical in
def gPutT (i : Nat) (fk fe : EF) : SF := fun δ => match δ[i]? with
  | some (.oT ks ds) => (fz fe δ).bind fun r => (dt fk δ).bind fun kd => kd.key?.bind fun n => if r.isSh = true ∧ ks.length < sizeLine ∧ onlyD i δ ∧ hasT ks n = false then some (.nx (δ.set i (.oT (ks ++ [n]) (ds ++ [r.dat])))) else none
  | _ => none
open Classical in
theorem psd_putT (i : Nat) {x : Str} {ek ee : Expr} {fk fe : EF} {p pos pos' : Pos} (hu : X.A.units + 64 < cLine) (hv : PE X (.Name x p) (tVar i)) (hk : PD X ek fk) (he : PD X ee fe) (hs : swapsWith ee (some (.Subscript (.Name x p) ek pos')) pos.line X.env = pure false := by rfl) :
    PSD X (.Assign [.Subscript (.Name x p) ek pos'] ee pos) (gPutT i fk fe) := PS.imp (ps_tput (by omega) hv hk.fz he.fz hs) fun D σ H h => by
  obtain ⟨B, G0, G, δ, fl, S, e, k⟩ := h
  obtain ⟨ks, ds, hd, e⟩ := oT_at (P := fun ks ds => (fz fe δ).bind fun r => (dt fk δ).bind fun kd => kd.key?.bind fun n => if r.isSh = true ∧ ks.length < sizeLine ∧ onlyD i δ ∧ hasT ks n = false then some (Fl.nx (δ.set i (.oT (ks ++ [n]) (ds ++ [r.dat])))) else none) e
  obtain ⟨r, er, e⟩ := Option.bind_eq_some_iff.mp e
  obtain ⟨kd, ek', e⟩ := Option.bind_eq_some_iff.mp e
  obtain ⟨rk, erk, rfl⟩ := dt_some ek'
  obtain ⟨n, en, e⟩ := Option.bind_eq_some_iff.mp e
  by_cases hc : r.isSh = true ∧ ks.length < sizeLine ∧ onlyD i δ ∧ hasT ks n = false
  case neg => rw [if_neg hc] at e; cases e
  rw [if_pos hc] at e
  cases e
  obtain ⟨hsh, hlen, honly, hnew⟩ := hc
  refine ⟨B, G0, G, δ, r, S, er, fun v G1 H1 S1 g1 q1 => ?_⟩
  obtain ⟨pp, kvs, e1, e2, e3, e4, rr⟩ := S1.slot i _ hd
  refine ⟨_, e1, B, G0, G1, δ, rk.fz, S1, fz_some erk, fun y G2 H2 S2 g2 q2 => ?_⟩
  obtain ⟨pp2, kvs2, e1', e2', e3', e4', kk⟩ := S2.slot i _ hd
  rw [e1] at e1'
  obtain rfl : pp = pp2 := by injection e1' with e1'; injection e1' with e1'; injection e1'
  have hl : kvs2.length < sizeLine := by
    have := congrArg List.length kk.keys
    rw [List.length_map, List.length_map] at this
    omega
  have hqk : RsR X.K H1 G2 H2 δ σ rk.fz y := q2
  have rG : Rep X.K G2 (.tup (n.map .int)) y := by
    cases rk with
    | sh d => have := q2; rw [key_some (d := d) en] at this; exact this
    | ow _ => cases en
    | al _ _ => cases en
    | ft pre es =>
      have h2 : Rep X.K G2 (.tup (pre ++ [.lst es])) y := q2
      have h3 := key_some (d := Dm.tup (pre ++ [Dm.lst es])) (show (Dm.tup (pre ++ [Dm.lst es])).key? = some n from en)
      rw [h3] at h2; exact h2
    | od _ _ => cases en
  obtain ⟨b, rfl, hb⟩ := rep_key rG
  cases r with
  | sh d =>
    have hq : Rep X.K G2 d v := Rep.mono g2.gg q1
    have ht : tput kvs2 (n.map Sum.inl) b v = kvs2 ++ [(n.map Sum.inl, b, v)] := by
      unfold tput
      rw [has_val n kk.keys, hnew]; rfl
    have K' : KTs X.K G2 (kvs2 ++ [(n.map Sum.inl, b, v)]) (ks ++ [n]) (ds ++ [d]) := by
      refine ⟨by rw [List.map_append, List.map_append, kk.keys]; rfl, fun e he => ?_, ?_⟩
      · rcases List.mem_append.mp he with he | he
        · exact kk.tups e he
        · rcases List.mem_singleton.mp he with rfl
          exact hb
      · rw [List.map_append]
        exact kk.vals.append (Reps.cons hq Reps.nil)
    refine ⟨pp, b, kvs2, n.map Sum.inl, ks ++ [n], rfl, rfl, e2', fun e he => Same.seqT S2.gh (kk.tups e he), Same.seqT S2.gh hb, by rw [ht]; exact K'.keys, hl, ?_⟩
    rw [ht]
    exact k G2 σ _ (S2.writeT hd e1 honly K') (g1.gg.trans g2.gg)
  | ow _ => exact absurd (show false = true from hsh) Bool.false_ne_true
  | al _ _ => exact absurd (show false = true from hsh) Bool.false_ne_true
  | ft _ _ => exact absurd (show false = true from hsh) Bool.false_ne_true
  | od _ _ => exact absurd (show false = true from hsh) Bool.false_ne_true
end
end BF
set_option Elab.async false
set_option linter.all false
set_option maxRecDepth 100000
set_option maxHeartbeats 4000000
namespace BF
open PySem PySem.Spec PyProof.Rows L2
noncomputable section
variable {X : Cx}
def ok3n (lo hi c : Int) : Bool := okB (c ≠ 0 ∧ c.natAbs < 1073741824 ∧ Builtin.Range.small lo hi c = true)
def iR3n (f g h : EF) : IF := fun δ => (dt f δ).bind fun d => d.int?.bind fun i => (dt g δ).bind fun d => d.int?.bind fun j => (dt h δ).bind fun d => d.int?.bind fun c => if ok3n i j c then some (rng3 i c (cnt3 i j c)) else none
theorem pi_r3n {tg a b c : Expr} {f g h : EF} {p pos : Pos} (ha : PD X a f) (hb : PD X b g) (hcc : PD X c h) (hg : Gl X "range") (hm : X.mg "range" = none) (hs : starEach [a, b, c] X.env = (false, eval a X.env) :: starEach [b, c] X.env := by rfl) (hs2 : starEach [b, c] X.env = (false, eval b X.env) :: starEach [c] X.env := by rfl) (hs3 : starEach [c] X.env = (false, eval c X.env) :: starEach [] X.env := by rfl) (hpl : (backTo pos (starEach [b, c] X.env)).any (·.1) = false := by rfl) :
    PID X tg (.Call (.Name "range" p) [a, b, c] [] pos) (iR3n f g h) := by
  intro pins s σ H R I q
  obtain ⟨B, G0, G, δ, ds, S, e, k⟩ := q
  obtain ⟨d, ed, e⟩ := Option.bind_eq_some_iff.mp e
  obtain ⟨ra, era, rfl⟩ := dt_some ed
  obtain ⟨i, ei, e⟩ := Option.bind_eq_some_iff.mp e
  obtain ⟨d', ed', e⟩ := Option.bind_eq_some_iff.mp e
  obtain ⟨rb, erb, rfl⟩ := dt_some ed'
  obtain ⟨j, ej, e⟩ := Option.bind_eq_some_iff.mp e
  obtain ⟨d3, ed3, e⟩ := Option.bind_eq_some_iff.mp e
  obtain ⟨rc, erc, rfl⟩ := dt_some ed3
  obtain ⟨n, en, e⟩ := Option.bind_eq_some_iff.mp e
  by_cases hok : ok3n i j n = true
  case neg => rw [if_neg hok] at e; cases e
  rw [if_pos hok] at e
  cases e
  obtain ⟨n1, n2, n3⟩ := okB_iff.mp hok
  refine PyProof.Rows.Call_ (ld_blt I hg hm boot_range (PyProof.Rows.callWith_type1 (thn ((pad_cons ha (pad_cons hb (pad_cons hcc pad_nil hs3) hs2) hs : PAD X [a, b, c] [f, g, h]) pos pins s σ H (fun vs H1 => vs = [.int i, .int j, .int n] ∧ ∃ G1, Sim X.K B G0 G1 δ σ H1 ∧ Gr G H G1 H1) I ?_) fun us s1 ⟨vs, H1, I1, r1, q1⟩ => ?_) hs hpl))
  · refine ⟨B, G0, G, δ, [ra.fz, rb.fz, rc.fz], S, by unfold evs evs evs evs; rw [era, erb, erc]; rfl, fun vs G1 H1 S1 g1 q1 => ?_⟩
    obtain ⟨v, t, rfl, _, qa, q1⟩ := q1
    obtain ⟨v2, t2, rfl, _, qb, q1⟩ := q1
    obtain ⟨v3, rfl, qc⟩ := RsRs.one q1
    have r1 := RsR.rep S1 qa
    have r2 := RsR.rep S1 qb
    have r3 := RsR.rep S1 qc
    rw [Rs.fz_dat, int_some ei] at r1
    rw [Rs.fz_dat, int_some ej] at r2
    rw [Rs.fz_dat, int_some en] at r3
    unfold Rep at r1 r2 r3
    exact ⟨by rw [r1, r2, r3], G1, S1, g1⟩
  · obtain ⟨rfl, G1, S1, g1⟩ := q1
    cases r1 with
    | cons ra' rr =>
      cases rr with
      | cons rb' rr =>
        cases rr with
        | cons rc' rr =>
          cases rr
          obtain ⟨t1, rfl⟩ := ra'
          obtain ⟨t2, rfl⟩ := rb'
          obtain ⟨t3, rfl⟩ := rc'
          refine call_range_3 (by omega) ?_ (.inl (PyProof.noPylong_small (by omega)))
          have I2 : Inv X pins σ H1 { s1 with heap := s1.heap.push { cls := .type "range", data := .fields #[.int i t1, .int j t2, .int n t3] }, toks := s1.toks } := I1.kept fun b o e => Heap.get?_push_of_some _ e
          refine wpAny_pyIter_range (IsRange.new ..) n3 ?_
          refine ⟨_, [(s1.heap.push { cls := .type "range", data := .fields #[.int i t1, .int j t2, .int n t3] }).objs.size], _, _, H1, rfl, I2.kept (t' := s1.toks) fun b o e => Heap.get?_push_of_some _ e, turn_range3 _ i n (cnt3 i j n), ?_, fun b hb => ?_, k _ G1 H1 S1 g1 jd_rng3⟩
          · have e1 : i + ((0 : Nat) : Int) * n = i := by simp
            have hpos : 0 ≤ Builtin.Range.rangeSize i j n := by rw [rangeSize_toNat]; omega
            have e2 : ((cnt3 i j n : Nat) : Int) - ((0 : Nat) : Int) = Builtin.Range.rangeSize i j n := by unfold cnt3; omega
            show IsRangeIter _ _ (i + ((0 : Nat) : Int) * n) (((cnt3 i j n : Nat) : Int) - ((0 : Nat) : Int)) n
            rw [e1, e2]
            exact Heap.get?_push_size _ rfl
          · have e : b = (s1.heap.push { cls := .type "range", data := .fields #[.int i t1, .int j t2, .int n t3] }).objs.size := by simpa using hb
            subst e
            exact I2.fpOk (Nat.le_refl _) (I2.hok.fresh (Nat.le_refl _))
def fOr (f g : EF) : EF := fun δ => match f δ with
  | some r => some r
  | none => g δ
theorem pd_two {e : Expr} {f g : EF} (h1 : PD X e f) (h2 : PD X e g) : PD X e (fOr f g) := fun pins s σ H Q I q => by
  obtain ⟨B, G0, G, δ, r, S, e, k⟩ := q
  unfold fOr at e
  cases hf : f δ with
  | some r' => rw [hf] at e; cases e; exact h1 pins s σ H Q I ⟨B, G0, G, δ, _, S, hf, k⟩
  | none => rw [hf] at e; exact h2 pins s σ H Q I ⟨B, G0, G, δ, r, S, e, k⟩
def tDInX (ty td : TE) : TE := fun σ H Q => ty σ H fun y H1 => td σ H1 fun x H2 => ∃ (a : Addr) (kvs : Nat × List (Key × V)) (n : Int), x = .ref a ∧ H2 a = some (DX a kvs) ∧ y = .int n ∧ Q (.bl (valV kvs.2 (Sum.inl n)).isSome) H2
theorem pc_dinX {i o : Expr} {ty td : TE} (hi : PE X i ty) (ho : PE X o td) : PC X .In i o (tDInX ty td) := by
  intro pins s σ H Q I h
  refine thn (hi pins s σ H _ I h) fun iv s1 ⟨y, H1, I1, ry, q1⟩ => thn (ho pins s1 σ H1 _ I1 q1) fun u s2 ⟨x, H2, I2, rx, a, kvs, n, ex, e, ey, q2⟩ => ?_
  subst ex ey
  obtain rfl : u = Value.ref a := rx
  obtain ⟨⟨z, hd, vs, rel, q⟩, _⟩ := rd_of I2.hok (.inl e)
  refine wpAny_in_of (kV_is (P := X.prog) (w := X.w) (k := Sum.inl n) ry) hd (q X.prog X.w).dictOf.mapOf ?_
  rw [← (rel.val (Sum.inl n)).isSome_eq]
  exact ⟨.bl (valV kvs.2 (Sum.inl n)).isSome, H2, I2.tok _, rfl, q2⟩
def keysAt (i : Nat) (δ : List Sl) : Option (List Int) := match δ[i]? with
  | some (.od ks _) => some ks
  | some (.sh (.dct ks _)) => some ks
  | _ => none
theorem keys_at {K : PySem.W.Frag} {B G0 G H : Hp} {δ : List Sl} {σ : L2.St} (S : Sim K B G0 G δ σ H) {i : Nat} {ks : List Int} (e : keysAt i δ = some ks) : ∃ p kvs, σ[i]? = some (some (.ref p)) ∧ H p = some (DX p kvs) ∧ kvs.2.map (·.1) = ks.map Sum.inl := by
  unfold keysAt at e
  cases q : δ[i]? with
  | none => rw [q] at e; cases e
  | some s =>
    rw [q] at e
    cases s with
    | od ks' ds =>
      cases e
      obtain ⟨p, kvs, e1, e2, _, _, kk, _⟩ := S.slot i _ q
      exact ⟨p, kvs, e1, e2, kk⟩
    | sh d =>
      cases d with
      | dct ks' ds =>
        cases e
        obtain ⟨v, e1, r⟩ := S.slot i _ q
        unfold Rep at r
        obtain ⟨a, kvs, rfl, hq, kk, _⟩ := r
        exact ⟨a, kvs, e1, S.gh _ _ hq, kk⟩
      | _ => cases e
    | _ => cases e
theorem val_any {kvs : List (Key × V)} {ks : List Int} (h : kvs.map (·.1) = ks.map Sum.inl) (n : Int) : (valV kvs (Sum.inl n)).isSome = decide (n ∈ ks) := by
  rw [← any_keys h n, ← valV_any]
def bInD (f : EF) (i : Nat) : BF' := fun δ => (keysAt i δ).bind fun ks => (dt f δ).bind fun d => d.int?.map fun n => decide (n ∈ ks)
theorem ptd_inD (i : Nat) {a : Expr} {f : EF} {x : Str} {p pos : Pos} (ha : PD X a f) (hv : PE X (.Name x p) (tVar i)) (hm : behindInMarks .In (.Name x p) = false := by rfl) : PTD X (.Compare a [.In] [.Name x p] pos) (bInD f i) :=
  PT.imp (pt_cmp (pc_dinX ha.fz hv) hm) fun σ H Q q => by
    obtain ⟨B, G0, G, δ, c, S, e, k⟩ := q
    obtain ⟨ks, ek, e⟩ := Option.bind_eq_some_iff.mp e
    obtain ⟨d, ed, e⟩ := Option.bind_eq_some_iff.mp e
    obtain ⟨r, er, rfl⟩ := dt_some ed
    obtain ⟨n, en, e⟩ := Option.map_eq_some_iff.mp e
    subst e
    refine ⟨B, G0, G, δ, r.fz, S, fz_some er, fun y G1 H1 S1 g1 q1 => ?_⟩
    have r1 := RsR.rep S1 q1
    rw [Rs.fz_dat, int_some en] at r1
    unfold Rep at r1
    obtain ⟨pp, kvs, e1, e2, kk⟩ := keys_at S1 ek
    exact ⟨_, e1, pp, kvs, n, rfl, e2, r1, _, rfl, by rw [val_any kk n]; exact k G1 H1 S1 g1⟩
def tDisp1 (tk tv : TE) : TE := fun σ H Q => ∀ p, H p = none → tk σ (upd H p (.dK [])) fun x H1 => tv σ H1 fun y H2 => H2 p = some (.dK []) ∧ ∃ n : Int, x = .int n ∧ ∀ ep, Q (.ref p) (upd H2 p (DX p (ep, [(Sum.inl n, y)])))
theorem pe_disp1 {k v : Expr} {pos : Pos} {tk tv : TE} (hk : PE X k tk) (hv : PE X v tv) : PE X (.Dict [some k] [v] pos) (tDisp1 tk tv) := by
  intro pins s σ H Q I q
  have hn := I.hok.fresh (Nat.le_refl s.heap.objs.size)
  have I1 := I.laid (a := s.heap.objs.size) (o := .dK []) (h' := s.heap.push { cls := .type "dict", data := .dict #[] }) (t' := s.toks) (fun _ _ q => Heap.get?_push_of_some _ q) (Nat.le_refl _) (dk_empty s.heap I.big)
  refine wpAny_Dict_walk (knd := mixKind X.prog X.w) rfl rfl (by simp) (by simp) (thn ((pps_cons hk hv pps_nil : PPs X pos [some k] [v] [(tk, tv)]) pins _ σ _ (fun ps H2 => match ps with | [(x, y)] => H2 s.heap.objs.size = some (.dK []) ∧ ∃ n : Int, x = .int n ∧ ∀ ep, Q (.ref s.heap.objs.size) (upd H2 s.heap.objs.size (DX s.heap.objs.size (ep, [(Sum.inl n, y)]))) | _ => False) I1 (q _ hn)) fun ws s2 ⟨ps, H2, I2, rel, q2⟩ => ?_)
  match ps, rel, q2 with
  | [(x, y)], rel, ⟨e, n, ex, q2⟩ =>
    subst ex
    obtain ⟨rs, c, rk⟩ := carries_of (P := X.prog) (w := X.w) (kvs := [(Sum.inl n, y)]) rel
    obtain ⟨z, hd, vs0, r0, dd⟩ := dk_of I2.hok e
    cases r0
    refine ⟨rs, c, dd, fun h' dd' hs => ?_⟩
    have rel' : KV [((Sum.inl n : Key), y)] (merged [] rs) := rk.merge .nil
    obtain ⟨ep, q'⟩ := dx_of (ints_of (ks := [n]) (by rw [← rel'.keys]; rfl)) dd'
    have he : ∃ q, h'.get? s.heap.objs.size = some q := let ⟨q, _, _, hq, _⟩ := dd'; ⟨q, hq⟩
    exact ⟨.ref s.heap.objs.size, _, d_write I2 (by rw [e]; exact True.intro) hs he (dx_ok (x := (ep, [(Sum.inl n, y)])) (by rw [sizeLine_eq]; simp) hd rel' q'), rfl, q2 ep⟩
def fDisp1 (fk fv : EF) : EF := fun δ => (dt fk δ).bind fun a => a.int?.bind fun n => (fz fv δ).bind fun r => if r.isSh then some (.od [n] [r.dat]) else none
theorem pd_disp1 {k v : Expr} {pos : Pos} {fk fv : EF} (hk : PD X k fk) (hv : PD X v fv) : PD X (.Dict [some k] [v] pos) (fDisp1 fk fv) := PE.imp (pe_disp1 hk.fz hv.fz) fun σ H Q h => by
  obtain ⟨B, G0, G, δ, r0, S, e, k⟩ := h
  obtain ⟨a, ea, e⟩ := Option.bind_eq_some_iff.mp e
  obtain ⟨ra, era, rfl⟩ := dt_some ea
  obtain ⟨n, en, e⟩ := Option.bind_eq_some_iff.mp e
  obtain ⟨r, er, e⟩ := Option.bind_eq_some_iff.mp e
  by_cases hsh : r.isSh = true
  case neg => rw [if_neg hsh] at e; cases e
  rw [if_pos hsh] at e
  cases e
  intro p hp
  have S0 := S.grow (Same.upd_new (o := .dK []) hp)
  refine ⟨B, G0, G, δ, ra.fz, S0, fz_some era, fun x G1 H1 S1 g1 q1 => ⟨B, G0, G1, δ, r, S1, er, fun y G2 H2 S2 g2 q2 => ?_⟩⟩
  have r1 := RsR.rep S1 q1
  rw [Rs.fz_dat, int_some en] at r1
  unfold Rep at r1
  have e2 : H2 p = some (.dK []) := g2.hh _ _ (g1.hh _ _ upd_same)
  have gp : G2 p = none := by
    rw [g2.nw p (by rw [g1.hh _ _ upd_same]; simp), g1.nw p (by rw [upd_same]; simp)]
    exact S.g_free hp
  have hh : Same H H2 := (Same.upd_new hp).trans (g1.hh.trans g2.hh)
  refine ⟨e2, n, r1, fun ep => ?_⟩
  cases r with
  | sh d =>
    refine k _ G2 _ (S2.poke gp (S.b_free hp) (S.ns_of_free hp)) ⟨g1.gg.trans g2.gg, fun b u eb => ?_, fun b hb => ?_⟩ ⟨p, (ep, [(Sum.inl n, y)]), rfl, upd_same, gp, hp, rfl, Reps.cons q2 Reps.nil⟩
    · rw [upd_ne (ne_of_none eb hp)]; exact hh b u eb
    · have hb1 : upd H p (.dK []) b ≠ none := by
        rw [upd_ne (by rintro rfl; exact hb hp)]; exact hb
      have hb2 : H1 b ≠ none := by
        cases q : upd H p (.dK []) b with
        | none => exact absurd q hb1
        | some o => rw [g1.hh b o q]; simp
      rw [g2.nw b hb2, g1.nw b hb1]
  | ow _ => exact absurd (show false = true from hsh) Bool.false_ne_true
  | al _ _ => exact absurd (show false = true from hsh) Bool.false_ne_true
  | ft _ _ => exact absurd (show false = true from hsh) Bool.false_ne_true
  | od _ _ => exact absurd (show false = true from hsh) Bool.false_ne_true
def Dm.flat : Dm → Bool
  | .tup cs => cs.all Dm.scal
  | d => d.scal
theorem scal_any {K : PySem.W.Frag} {G G' : Hp} {d : Dm} {v : V} (hs : d.scal = true) (h : Rep K G d v) : Rep K G' d v := by
  cases d with
  | lst ds => exact absurd (show false = true from hs) Bool.false_ne_true
  | tup ds => exact absurd (show false = true from hs) Bool.false_ne_true
  | dct ks ds => exact absurd (show false = true from hs) Bool.false_ne_true
  | _ => unfold Rep at h ⊢; exact h
theorem scals_any {K : PySem.W.Frag} {G G' : Hp} : ∀ {ds : List Dm} {vs : List V}, ds.all Dm.scal = true → Reps K G ds vs → Reps K G' ds vs
  | [], _, _, h => by unfold Reps at h ⊢; exact h
  | d :: ds, _, a, h => by
    rw [List.all_cons, Bool.and_eq_true] at a
    unfold Reps at h
    obtain ⟨v, r, e, q, t⟩ := h
    subst e
    exact Reps.cons (scal_any a.1 q) (scals_any a.2 t)
theorem flat_drop {K : PySem.W.Frag} {G : Hp} {p : Addr} {x : Nat × List (Key × V)} {d : Dm} {v : V} (hf : d.flat = true) (hp : G p = some (DX p x)) (h : Rep K G d v) : Rep K (fun b => if b = p then none else G b) d v := by
  cases d with
  | tup cs =>
    unfold Rep at h ⊢
    obtain ⟨a, xs, e, q, r⟩ := h
    refine ⟨a, xs, e, ?_, scals_any hf r⟩
    rcases q with q | q
    · left
      rcases q with q | ⟨o, q⟩
      · left
        show (if a = p then none else G a) = _
        rw [if_neg (by rintro rfl; rw [hp] at q; cases q)]; exact q
      · refine .inr ⟨o, ?_⟩
        show (if a = p then none else G a) = _
        rw [if_neg (by rintro rfl; rw [hp] at q; cases q)]; exact q
    · exact .inr q
  | _ => exact scal_any hf h
def fCallD (F : FD) (f : EF) (i : Nat) : EF := fun δ => match δ[i]? with
  | some (.od ks ds) => (fz f δ).bind fun r => if r.isSh then (match F [r.dat, .dct ks ds] with | some (.sh d) => if d.flat then some (.sh d) else none | _ => none) else none
  | _ => none
theorem od_at' {i : Nat} {δ : List Sl} {α : Type} {P : List Int → List Dm → Option α} {fl : α} (e : (match δ[i]? with | some (.od ks ds) => P ks ds | _ => none) = some fl) : ∃ ks ds, δ[i]? = some (.od ks ds) ∧ P ks ds = some fl := by
  cases q : δ[i]? with
  | none => rw [q] at e; cases e
  | some s =>
    rw [q] at e
    cases s with
    | od ks ds => exact ⟨ks, ds, rfl, e⟩
    | _ => cases e
theorem callD_run {K : PySem.W.Frag} {F : FD} {f : EF} {i : Nat} {σ : L2.St} {H : Hp} {Q : VK} {E : XK} (h : tD K (fCallD F f i) σ H Q) : tCons (tD K (fz f)) (tCons (tVar i) tNil) σ H fun vs H1 => spD K F vs H1 Q E := by
  obtain ⟨B, G0, G, δ, r0, S, e, k⟩ := h
  obtain ⟨ks, ds, hd, e⟩ := od_at' (P := fun ks ds => (fz f δ).bind fun r => if r.isSh then (match F [r.dat, .dct ks ds] with | some (.sh d) => if d.flat then some (Rs.sh d) else none | _ => none) else none) e
  obtain ⟨r, er, e⟩ := Option.bind_eq_some_iff.mp e
  by_cases hsh : r.isSh = true
  case neg => rw [if_neg hsh] at e; cases e
  rw [if_pos hsh] at e
  cases r with
  | ow _ => exact absurd (show false = true from hsh) Bool.false_ne_true
  | al _ _ => exact absurd (show false = true from hsh) Bool.false_ne_true
  | ft _ _ => exact absurd (show false = true from hsh) Bool.false_ne_true
  | od _ _ => exact absurd (show false = true from hsh) Bool.false_ne_true
  | sh d0 =>
  cases hF : F [(Rs.sh d0).dat, .dct ks ds] with
  | none => rw [hF] at e; cases e
  | some r1 =>
    rw [hF] at e
    cases r1 with
    | ow _ => cases e
    | al _ _ => cases e
    | ft _ _ => cases e
    | od _ _ => cases e
    | sh d1 =>
      have e' : (if d1.flat then some (Rs.sh d1) else none) = some r0 := e
      by_cases hfl : d1.flat = true
      case neg => rw [if_neg hfl] at e'; cases e'
      rw [if_pos hfl] at e'
      cases e'
      refine ⟨B, G0, G, δ, _, S, er, fun v G1 H1 S1 g1 q1 => ?_⟩
      have k1 := KD.step ⟨S, k⟩ S1 g1
      obtain ⟨p, kvs, e1, e2, e3, e4, kk, rr⟩ := S1.slot i _ hd
      refine ⟨_, e1, ?_⟩
      have up : Same G1 (upd G1 p (DX p kvs)) := Same.upd_new e3
      refine ⟨upd G1 p (DX p kvs), [d0, .dct ks ds], .sh d1, fun b u eb => ?_, Reps.cons (Rep.mono up q1) (Reps.cons ?_ Reps.nil), hF, fun v' G' H' hh gg gh nw ret => ?_⟩
      · by_cases z : b = p
        · subst z; rw [upd_same] at eb; rw [e2]; exact eb
        · rw [upd_ne z] at eb; exact S1.gh b u eb
      · unfold Rep
        exact ⟨p, kvs, rfl, upd_same, kk, rr.mono up⟩
      · have gp : G' p = some (DX p kvs) := gg _ _ upd_same
        have g2 : Gr G1 H1 (fun b => if b = p then none else G' b) H' := by
          refine ⟨fun b u eb => ?_, hh, fun b hb => ?_⟩
          · have hne := ne_of_none eb e3
            show (if b = p then none else G' b) = _
            rw [if_neg hne]
            exact gg b u (by rw [upd_ne hne]; exact eb)
          · show (if b = p then none else G' b) = _
            by_cases z : b = p
            · subst z; rw [if_pos rfl, e3]
            · rw [if_neg z, nw b hb, upd_ne z]
        have gh2 : Same (fun b => if b = p then none else G' b) H' := fun b u eb => by
          by_cases z : b = p
          · subst z
            have eb' : (if b = b then none else G' b) = some u := eb
            rw [if_pos rfl] at eb'; cases eb'
          · have eb' : (if b = p then none else G' b) = some u := eb
            rw [if_neg z] at eb'; exact gh b u eb'
        exact k1.out v' _ H' (S1.ext g2 gh2) g2 (flat_drop hfl gp ret)
theorem pd_callD (i : Nat) {x y : Str} {f : Addr} {fd : FuncData} {ps : List Str} {k : Nat} {F : FD} {p p2 pos : Pos} {e : Expr} {fe : EF} (G : FnOk X.prog X.w X.K X.mg X.base CX0 k f fd ps (spD X.K F)) (hr : Room k X.A) (hg : Gl X x) (hm : X.mg x = some (.ref f)) (hk : PySem.W.keepIn X.K (.ref f) = true)
    (hb : Binds X.K fd ps []) (he : PD X e fe) (hv : PE X (.Name y p2) (tVar i)) (hdb : (x == ("__debug__" : Str)) = false := by decide +kernel) (hs : starEach [e, .Name y p2] X.env = (false, eval e X.env) :: starEach [.Name y p2] X.env := by rfl) (hpl : (backTo pos (starEach [.Name y p2] X.env)).any (·.1) = false := by rfl) : PD X (.Call (.Name x p) [e, .Name y p2] [] pos) (fCallD F fe i) :=
  PE.imp (pe_call G hr hg hm hk hb .nil pass0 (pa_cons he.fz (pa_cons hv pa_nil) hs) hdb hs hpl) fun σ H Q h => by
    have := callD_run (E := E0) h
    show tCons (tD X.K (fz fe)) (tCons (tVar i) tNil) σ H fun vs H1 => spD X.K F (vs ++ []) H1 Q E0
    simpa using this
end
end BF
set_option Elab.async false
set_option linter.all false
set_option maxRecDepth 100000
set_option maxHeartbeats 4000000
namespace BF
open PySem PySem.Spec PyProof.Rows L2
noncomputable section
variable {X : Cx}
end
end BF
set_option Elab.async false
set_option linter.all false
set_option maxRecDepth 100000
set_option maxHeartbeats 4000000
namespace BF
open PySem PySem.Spec PyProof.Rows L2
noncomputable section
variable {X : Cx}
theorem range_rev (r : Addr) (a b c : Int) (t u v : Tok) (hc0 : ¬(!(Builtin.Range.rangeFitsLong a && Builtin.Range.rangeFitsLong b && Builtin.Range.rangeFitsLong c && Builtin.Range.rangeFitsLong (-c) && Builtin.Range.rangeFitsLong (a - c) && Builtin.Range.rangeFitsLong (Builtin.Range.rangeSize a b c))) = true) :
    Meets (Builtin.«range.__reversed__» ⟨[.ref r], []⟩) (fun _ R s => s.heap.get? r = some { cls := .type "range", dict := none, data := .fields #[.int a t, .int b u, .int c v], slots := #[] } ∧ R (.ok (.ret (Value.ref s.heap.objs.size))) { s with heap := s.heap.push { cls := Value.type (if (Builtin.Range.rangeFitsLong a && Builtin.Range.rangeFitsLong b && Builtin.Range.rangeFitsLong c && Builtin.Range.rangeFitsLong (-c) && Builtin.Range.rangeFitsLong (a - c) && Builtin.Range.rangeFitsLong (Builtin.Range.rangeSize a b c)) = true then "range_iterator" else "longrange_iterator"), data := Data.fields #[rawInt (a + (Builtin.Range.rangeSize a b c - 1) * c), rawInt (Builtin.Range.rangeSize a b c), rawInt (-c)] }, toks := s.toks }) :=
  .of_wp fun prog w A R s h => by obtain ⟨hp, g, d, tk, os⟩ := s; obtain ⟨hl, h⟩ := h; wp_walk; exact ⟨_, rfl, h⟩
theorem sub_ri_reversed : isSubtype (.type "range_iterator") (.type "reversed") = pure false := by rw [isSubtype_type]; kernel_rfl
section
variable {prog : Program} {w : World} {A : Around} {E : Value → Shared → Prop} {s : Shared}
def fitsR (a b c : Int) : Bool := Builtin.Range.rangeFitsLong a && Builtin.Range.rangeFitsLong b && Builtin.Range.rangeFitsLong c && Builtin.Range.rangeFitsLong (-c) && Builtin.Range.rangeFitsLong (a - c) && Builtin.Range.rangeFitsLong (Builtin.Range.rangeSize a b c)
abbrev revR (a b c : Int) : Obj := { cls := .type "range_iterator", data := .fields #[rawInt (a + (Builtin.Range.rangeSize a b c - 1) * c), rawInt (Builtin.Range.rangeSize a b c), rawInt (-c)] }
theorem call_range_rev {l : Addr} {a b c : Int} {t u v : Tok} {Q : Value → Shared → Prop} (hl : IsRange s.heap l a b c t u v) (hf : fitsR a b c = true)
    (h : Q (.ref s.heap.objs.size) { s with heap := s.heap.push (revR a b c) }) : wpAny (model prog w) A (call (.builtin "range.__reversed__") [.ref l]) Q E s := by
  have hT : s.TypeIs (.ref l) "range" := ⟨_, hl, rfl⟩
  have hf' := hf
  unfold fitsR at hf'
  refine call_meets PySem.F.slot_range_reversed hT PySem.F.entry_range_reversed (PySem.F.args_range_reversed_1 _) (range_rev l a b c t u v (by rw [hf']; decide)) ⟨hl, ?_⟩
  rw [if_pos hf']
  exact h
theorem code_rev_range {l : Addr} {a b c : Int} {t u v : Tok} {Q₁ : Value → Shared → Prop} (hl : IsRange s.heap l a b c t u v) (hf : fitsR a b c = true)
    (h : Q₁ (.ref s.heap.objs.size) { s with heap := s.heap.push (revR a b c) }) :
    codeAny (model prog w) A (.call (.builtin "reversed.__new__") ⟨[.type "reversed", .ref l], []⟩) (wants Q₁ E) s := by
  have hT : s.TypeIs (.ref l) "range" := ⟨_, hl, rfl⟩
  refine codeAny_of_tree ?_
  show wpAny _ A.in1 (do checkBuiltinCall "reversed.__new__" ⟨[.type "reversed", .ref l], []⟩; again (.builtin "reversed.__new__" ⟨[.type "reversed", .ref l], []⟩)) _ _ s
  refine wpAny_bind (wpAny_of_eq (PySem.F.newCall_reversed_1 _) (wpAny_pure ⟨plainId_quiet PySem.F.plain_reversed_new _, codeAny_builtin PySem.F.entry_reversed_new ?_⟩))
  rw [Around.under_plainId PySem.F.plain_reversed_new _]
  unfold Builtin.«reversed.__new__»
  refine wpAny_bind (wpAny_of_eq (newClass_reversed _) ?_)
  try dsimp only
  refine wpAny_bind (wpAny_of_eq (a := ()) (by first | rfl | kernel_rfl) ?_)
  refine wpAny_bind (wpAny_of_eq (a := ()) (by first | rfl | kernel_rfl) ?_)
  try dsimp only
  refine wpAny_bind (wpAny_specialOf hT PySem.F.slot_range_reversed.lookup ?_)
  try dsimp only
  refine wpAny_bind (wpAny_of_eq (PySem.F.slot_range_reversed.bind _) ?_)
  try dsimp only
  first
  | rw [if_neg (show ¬ ((Value.builtin "range.__reversed__" == Value.none) = true) from Bool.false_ne_true)]
  | (show wpAny _ _ (if (Value.builtin "range.__reversed__" == Value.none) = true then _ else _) _ _ _; rw [if_neg (show ¬ ((Value.builtin "range.__reversed__" == Value.none) = true) from Bool.false_ne_true)])
  refine wpAny_bind (wpAny_rule ?_)
  refine wpAny_bind (m := runValue (.call (.builtin "range.__reversed__") ⟨[.ref l], []⟩)) (show wpAny _ _ (call (.builtin "range.__reversed__") [.ref l]) _ _ _ from call_range_rev hl hf ?_)
  first
  | exact wpAny_pure h
  | exact wpAny_bind (wpAny_pure (wpAny_pure h))
theorem call_reversed_range {l : Addr} {a b c : Int} {t u v : Tok} {Q : Value → Shared → Prop} (hl : IsRange s.heap l a b c t u v) (hf : fitsR a b c = true)
    (h : Q (.ref s.heap.objs.size) { s with heap := s.heap.push (revR a b c) }) : wpAny (model prog w) A (call (.type "reversed") [.ref l]) Q E s := by
  refine callType_other (U := "range_iterator") (Q₁ := fun obj s₁ => obj = .ref s.heap.objs.size ∧ s₁ = { s with heap := s.heap.push (revR a b c) }) (by decide +kernel) PySem.F.create_reversed ⟨_, _, PySem.F.mro_reversed⟩ PySem.F.made_reversed sub_ri_reversed (PySem.F.typeCall_reversed_1 _) (code_rev_range hl hf ⟨rfl, rfl⟩) ?_
  rintro obj s₁ ⟨rfl, rfl⟩
  exact ⟨⟨_, Heap.get?_push_size _ rfl, rfl⟩, h⟩
end
def iVR (f g : EF) : IF := fun δ => (dt f δ).bind fun d => d.int?.bind fun i => (dt g δ).bind fun d => d.int?.bind fun j => if okR i && okR j && fitsR i j 1 then some (rng3 (i + (Builtin.Range.rangeSize i j 1 - 1) * 1) (-1) (Builtin.Range.rangeSize i j 1).toNat) else none
theorem pi_vr {tg a b : Expr} {f g : EF} {p p2 p3 pos : Pos} (h : PD X a f) (h' : PD X b g) (hg : Gl X "reversed") (hm : X.mg "reversed" = none) (hb : bootBuiltins "reversed" = some (.type "reversed")) (hgr : Gl X "range") (hmr : X.mg "range" = none)
    (hs : starEach [.Call (.Name "range" p2) [a, b] [] p3] X.env = (false, eval (.Call (.Name "range" p2) [a, b] [] p3) X.env) :: starEach [] X.env := by rfl) (hs1 : starEach [a, b] X.env = [(false, eval a X.env), (false, eval b X.env)] := by rfl) (hs2 : starEach [b] X.env = [(false, eval b X.env)] := by rfl) (hs3 : starEach [a, b] X.env = (false, eval a X.env) :: starEach [b] X.env := by rfl) :
    PID X tg (.Call (.Name "reversed" p) [.Call (.Name "range" p2) [a, b] [] p3] [] pos) (iVR f g) := by
  intro pins s σ H R I q
  obtain ⟨B, G0, G, δ, ds, S, e, k⟩ := q
  obtain ⟨d, ed, e⟩ := Option.bind_eq_some_iff.mp e
  obtain ⟨ra, era, rfl⟩ := dt_some ed
  obtain ⟨i, ei, e⟩ := Option.bind_eq_some_iff.mp e
  obtain ⟨d', ed', e⟩ := Option.bind_eq_some_iff.mp e
  obtain ⟨rb, erb, rfl⟩ := dt_some ed'
  obtain ⟨j, ej, e⟩ := Option.bind_eq_some_iff.mp e
  by_cases hok : (okR i && okR j && fitsR i j 1) = true
  case neg => rw [if_neg hok] at e; cases e
  rw [if_pos hok] at e
  cases e
  rw [Bool.and_eq_true, Bool.and_eq_true] at hok
  refine PyProof.Rows.Call_ (ld_blt I hg hm hb (PyProof.Rows.callWith_type1 ?_ hs rfl))
  rw [hs]
  show wpAny _ _ (spliced ((false, eval (.Call (.Name "range" p2) [a, b] [] p3) X.env) :: backTo pos (starEach [] X.env))) _ _ s
  refine Calls.spliced_cons (PyProof.Rows.Call_ (ld_blt I hgr hmr boot_range (PyProof.Rows.callWith_type1 (thn ((pad_cons h (pad_cons h' pad_nil hs2) hs3 : PAD X [a, b] [f, g]) p3 pins s σ H (fun vs H1 => vs = [.int i, .int j] ∧ ∃ G1, Sim X.K B G0 G1 δ σ H1 ∧ Gr G H G1 H1) I ?_) fun us s1 ⟨vs, H1, I1, r1, q1⟩ => ?_) (by rw [hs1, hs2]) (by rw [hs2]; rfl))))
  · refine ⟨B, G0, G, δ, [ra.fz, rb.fz], S, by unfold evs evs evs; rw [era, erb]; rfl, fun vs G1 H1 S1 g1 q1 => ?_⟩
    obtain ⟨v, t, rfl, _, qa, q1⟩ := q1
    obtain ⟨v2, rfl, qb⟩ := RsRs.one q1
    have r1 := RsR.rep S1 qa
    have r2 := RsR.rep S1 qb
    rw [Rs.fz_dat, int_some ei] at r1
    rw [Rs.fz_dat, int_some ej] at r2
    unfold Rep at r1 r2
    exact ⟨by rw [r1, r2], G1, S1, g1⟩
  · obtain ⟨rfl, G1, S1, g1⟩ := q1
    cases r1 with
    | cons ra' rr =>
      cases rr with
      | cons rb' rr =>
        cases rr
        obtain ⟨t1, rfl⟩ := ra'
        obtain ⟨t2, rfl⟩ := rb'
        refine call_range_2 (Calls.spliced_nil ?_)
        refine call_reversed_range (IsRange.new ..) hok.2 ?_
        have I2 : Inv X pins σ H1 { s1 with heap := s1.heap.push { cls := .type "range", data := .fields #[.int i t1, .int j t2, .int 1 s1.toks] }, toks := s1.toks + 1 } := I1.kept fun b o e => Heap.get?_push_of_some _ e
        have st0 : IsRangeIter ((s1.heap.push { cls := .type "range", data := .fields #[.int i t1, .int j t2, .int 1 s1.toks] }).push (revR i j 1)) (s1.heap.push { cls := .type "range", data := .fields #[.int i t1, .int j t2, .int 1 s1.toks] }).objs.size (i + (Builtin.Range.rangeSize i j 1 - 1) * 1) (Builtin.Range.rangeSize i j 1) (-1) := Heap.get?_push_size _ rfl
        refine wpAny_pyIter_rangeiter (s := { s1 with heap := (s1.heap.push { cls := .type "range", data := .fields #[.int i t1, .int j t2, .int 1 s1.toks] }).push (revR i j 1), toks := s1.toks + 1 }) st0 ?_
        refine ⟨_, [(s1.heap.push { cls := .type "range", data := .fields #[.int i t1, .int j t2, .int 1 s1.toks] }).objs.size], _, _, H1, rfl, I2.kept (t' := s1.toks + 1) fun b o e => Heap.get?_push_of_some _ e, turn_range3 _ (i + (Builtin.Range.rangeSize i j 1 - 1) * 1) (-1) (Builtin.Range.rangeSize i j 1).toNat, ?_, fun b hb => ?_, k _ G1 H1 S1 g1 jd_rng3⟩
        · have e1 : (i + (Builtin.Range.rangeSize i j 1 - 1) * 1) + ((0 : Nat) : Int) * (-1) = i + (Builtin.Range.rangeSize i j 1 - 1) * 1 := by omega
          have e2 : (((Builtin.Range.rangeSize i j 1).toNat : Nat) : Int) - ((0 : Nat) : Int) = Builtin.Range.rangeSize i j 1 := by rw [← rangeSize_toNat]; omega
          show IsRangeIter _ _ ((i + (Builtin.Range.rangeSize i j 1 - 1) * 1) + ((0 : Nat) : Int) * (-1)) ((((Builtin.Range.rangeSize i j 1).toNat : Nat) : Int) - ((0 : Nat) : Int)) (-1)
          rw [e1, e2]
          exact st0
        · have e : b = (s1.heap.push { cls := .type "range", data := .fields #[.int i t1, .int j t2, .int 1 s1.toks] }).objs.size := by simpa using hb
          subst e
          exact I2.fpOk (Nat.le_refl _) (I2.hok.fresh (Nat.le_refl _))
def anyEq (a : Dm) (ds : List Dm) : Bool := (toPys ds).any fun y => PyData.eqv y (toPy a)
def oInD (neg : Bool) : Dm → Dm → Option Dm := fun a b => match b with
  | .lst ds => if okEq a && okEq (.lst ds) then some (.bl (if neg then !anyEq a ds else anyEq a ds)) else none
  | _ => none
def rInD (K : PySem.W.Frag) (neg : Bool) : R2 := fun x y H Q => ∃ a ds, Rep K H a x ∧ Rep K H (.lst ds) y ∧ okEq a = true ∧ okEq (.lst ds) = true ∧ Q (.bl (if neg then !anyEq a ds else anyEq a ds)) H
theorem op_inDD (hu : X.A.units + 65 < cLine) : OpR X (compareOp .In) (rInD X.K false) := by
  intro pins s σ H x y v u Q I rx ry h
  obtain ⟨a, ds, ra, rb, ha, hb, q⟩ := h
  obtain ⟨as, Ra⟩ := reads_of I (okEq_lay ha) ra rx
  obtain ⟨bs, Rb⟩ := reads_of I (okEq_lay hb) rb ry
  have hl : PyData.canLayAll0 (toPys ds) = true := by simpa [toPy, PyData.canLay0] using okEq_lay hb
  exact SeqAt.in_list_reads Rb Ra hl (okEq_lay ha) (room_in_shaped ha hu) ⟨.bl _, H, I, rfl, q⟩
theorem op2_inDD {K : PySem.W.Frag} (neg : Bool) : Op2 K (rInD K neg) (oInD neg) := by
  intro x y H a b d Q ra rb e
  unfold oInD at e
  cases b with
  | lst ds =>
    have e' : (if okEq a && okEq (.lst ds) then some (Dm.bl (if neg then !anyEq a ds else anyEq a ds)) else none) = some d := e
    by_cases hc : (okEq a && okEq (.lst ds)) = true
    · rw [if_pos hc] at e'; cases e'
      rw [Bool.and_eq_true] at hc
      exact ⟨rfl, fun q => ⟨a, ds, ra, rb, hc.1, hc.2, q⟩⟩
    · rw [if_neg hc] at e'; cases e'
  | _ => cases e
section
variable {a b : Expr} {pos : Pos} {fa fb : EF}
theorem pt_inDD (hu : X.A.units + 65 < cLine) (ha : PD X a fa) (hb : PD X b fb) (hm : behindInMarks .In b = false) : PTD X (.Compare a [.In] [b] pos) (bB (op2 (oInD false) fa fb)) := pt_c (op_inDD hu) (op2_inDD false) ha hb hm
end
theorem room65 {k : Nat} {A : Around} (h : Room k A) : A.units + 65 < cLine := by have := h.un; omega
end
end BF
set_option Elab.async false
set_option linter.all false
set_option maxRecDepth 100000
set_option maxHeartbeats 4000000
namespace LW
open PySem L2 BF
noncomputable section
def F__law_at : FD := bodyD 2 2
    (gSeq (gIf (bB (op2 oLt (fVar 1) (fB oLen [(fVar 0)])))
      (gRet (fIx (fVar 0) (fVar 1)))
      BF.gNil)
      (gRet (fC (.int 0))))
def F__law_mixed : FD := bodyD 2 3
    (gSeq (gIf (bB (op2 oGe (fVar 0) (op2 oPow (fC (.int 10)) (fC (.int 40)))))
      (gRet (op2 oMod (op2 oDiv (op2 oSub (fVar 0) (op2 oPow (fC (.int 10)) (fC (.int 40)))) (op2 oShl (fC (.int 1)) (op2 oMul (fC (.int 31)) (op2 oMod (fVar 1) (fC (.int 60)))))) (op2 oShl (fC (.int 1)) (fC (.int 31)))))
      BF.gNil)
      (gSeq (gSet 2 (op2 oMod (op2 oAdd (op2 oAdd (op2 oMul (fVar 0) (fC (.int 1103515245))) (op2 oMul (op2 oMul (fC (.int 7919)) (fVar 1)) (fVar 1))) (fVar 1)) (fC (.int 2147483647))))
      (gSeq (gSet 2 (op2 oMod (op2 oMul (fVar 2) (fVar 2)) (fC (.int 2147483629))))
      (gRet (op2 oMod (op2 oMul (fVar 2) (fC (.int 69621))) (fC (.int 2147483587)))))))
def F__law_big : FD := bodyD 2 3
    (gSeq (gIf (bB (op2 oGe (fVar 0) (op2 oPow (fC (.int 10)) (fC (.int 40)))))
      (gRet (op2 oSub (fVar 0) (op2 oPow (fC (.int 10)) (fC (.int 40)))))
      BF.gNil)
      (gSeq (gSet 2 (op2 oAdd (op2 oMul (fCall F__law_mixed [(fVar 0), (fVar 1)]) (fC (.int 2147483629))) (fCall F__law_mixed [(fVar 0), (op2 oAdd (fVar 1) (fC (.int 101)))])))
      (gSeq (gSet 2 (op2 oAdd (op2 oMul (fVar 2) (fC (.int 2147483587))) (fCall F__law_mixed [(fVar 0), (op2 oAdd (fVar 1) (fC (.int 211)))])))
      (gRet (op2 oAdd (op2 oMul (fVar 2) (fC (.int 2147483579))) (fCall F__law_mixed [(fVar 0), (op2 oAdd (fVar 1) (fC (.int 307)))]))))))
def F__law_twice : FD := bodyD 1 1
    (gSeq (gIf (bB (op2 (oEq false) (fIx (fVar 0) (fC (.int 0))) (fC (.str "fix"))))
      (gRet (fVar 0))
      BF.gNil)
      (gSeq (gIf (bB (op2 (oEq false) (fIx (fVar 0) (fC (.int 0))) (fC (.str "both"))))
      (gRet (fTup [(fC (.str "both")), (op2 oMul (fC (.int 2)) (fIx (fVar 0) (fC (.int 2)))), (op2 oMul (fC (.int 2)) (fIx (fVar 0) (fC (.int 1))))]))
      BF.gNil)
      (gRet (fTup [(fIx (fVar 0) (fC (.int 0))), (op2 oMul (fC (.int 2)) (fIx (fVar 0) (fC (.int 1)))), (fIx (fVar 0) (fC (.int 2)))]))))
def B__law_doubled_1 : SF :=
    (gSet 1 (fz (fCat (fVar 1) (fLst [(fCall F__law_twice [(fVar 2)]), (fCall F__law_twice [(fVar 2)])]))))
def F__law_doubled : FD := bodyD 1 3
    (gSeq (gSet 1 (fz (fLst [])))
      (gSeq (gFor (iS (fVar 0)) (.nm 2) B__law_doubled_1)
      (gRet (fVar 1))))
def F__law_whole : FD := bodyD 1 1
    (gRet (vAnd (fIsi (fVar 0) "int") (vNot (fIsi (fVar 0) "bool"))))
def B__law_fine_row_1 : SF :=
    (gIf (bOr (bNot (bB (fCall F__law_whole [(fVar 3)]))) (bB (op2 oLt (fVar 3) (fC (.int 0)))))
      (gRet (fC (.bl false)))
      BF.gNil)
def F__law_fine_row : FD := bodyD 3 5
    (gSeq (gIf (bOr (bNot (bB (fIsi (fVar 0) "tuple"))) (bNot (bB (fIsi (fIx (fVar 0) (fC (.int 0))) "str"))))
      (gRet (fC (.bl false)))
      BF.gNil)
      (gSeq (gFor (iS (fSl (fVar 0) (pSome (fC (.int 1))) pNo)) (.nm 3) B__law_fine_row_1)
      (gSeq (gSet 4 (op2 oSub (op2 oShl (fC (.int 1)) (fVar 1)) (fC (.int 1))))
      (gSeq (gIf (bB (op2 (oEq false) (fIx (fVar 0) (fC (.int 0))) (fC (.str "fix"))))
      (gRet (vAnd (op2 (oEq false) (fB oLen [(fVar 0)]) (fC (.int 2))) (op2 oLe (fIx (fVar 0) (fC (.int 1))) (fVar 4))))
      BF.gNil)
      (gSeq (gIf (bOr (bB (op2 (oEq true) (fB oLen [(fVar 0)]) (fC (.int 3)))) (bB (op2 oGe (fIx (fVar 0) (fC (.int 1))) (fVar 2))))
      (gRet (fC (.bl false)))
      BF.gNil)
      (gSeq (gIf (bB (op2 (oEq false) (fIx (fVar 0) (fC (.int 0))) (fC (.str "both"))))
      (gRet (op2 oLt (fIx (fVar 0) (fC (.int 2))) (fVar 2)))
      BF.gNil)
      (gSeq (gIf (bB (op2 (oIn false) (fIx (fVar 0) (fC (.int 0))) (fLst [(fC (.str "up")), (fC (.str "down"))])))
      (gRet (op2 oLe (fIx (fVar 0) (fC (.int 2))) (fVar 1)))
      BF.gNil)
      (gRet (vAnd (op2 (oIn false) (fIx (fVar 0) (fC (.int 0))) (fLst [(fC (.str "mask")), (fC (.str "turn"))])) (op2 oLe (fIx (fVar 0) (fC (.int 2))) (fVar 4)))))))))))
def B__law_fine_1 : SF :=
    (gIf (bNot (bB (fCall F__law_fine_row [(fIx (fVar 0) (fVar 3)), (fVar 1), (op2 oAdd (fVar 3) (fC (.int 1)))])))
      (gRet (fC (.bl false)))
      BF.gNil)
def F__law_fine : FD := bodyD 3 4
    (gSeq (gIf (bOr (bNot (bB (fIsi (fVar 0) "list"))) (bB (op2 oGt (fB oLen [(fVar 0)]) (fVar 2))))
      (gRet (fC (.bl false)))
      BF.gNil)
      (gSeq (gFor (iR (fB oLen [(fVar 0)])) (.nm 3) B__law_fine_1)
      (gRet (fC (.bl true)))))
def F__law_idle : FD := bodyD 2 2
    (gSeq (gIf (bB (op2 (oEq false) (fIx (fVar 0) (fC (.int 0))) (fC (.str "mask"))))
      (gRet (vOr (op2 (oEq false) (fIx (fVar 0) (fC (.int 2))) (fC (.int 0))) (op2 (oEq false) (fIx (fVar 0) (fC (.int 2))) (op2 oSub (op2 oShl (fC (.int 1)) (fVar 1)) (fC (.int 1))))))
      BF.gNil)
      (gSeq (gIf (bB (op2 (oEq false) (fIx (fVar 0) (fC (.int 0))) (fC (.str "turn"))))
      (gRet (op2 (oEq false) (fIx (fVar 0) (fC (.int 2))) (fC (.int 0))))
      BF.gNil)
      (gSeq (gIf (bOr (bB (op2 (oEq false) (fIx (fVar 0) (fC (.int 0))) (fC (.str "up")))) (bB (op2 (oEq false) (fIx (fVar 0) (fC (.int 0))) (fC (.str "down")))))
      (gRet (vOr (op2 (oEq false) (fIx (fVar 0) (fC (.int 2))) (fC (.int 0))) (op2 (oEq false) (fIx (fVar 0) (fC (.int 2))) (fVar 1))))
      BF.gNil)
      (gRet (vAnd (op2 (oEq false) (fIx (fVar 0) (fC (.int 0))) (fC (.str "both"))) (op2 (oEq false) (fIx (fVar 0) (fC (.int 1))) (fIx (fVar 0) (fC (.int 2)))))))))
def F__law_key : FD := bodyD 1 1
    (gSeq (gIf (bB (op2 (oEq false) (fIx (fVar 0) (fC (.int 0))) (fC (.str "both"))))
      (gRet (fTup [(fC (.str "both")), (fB oMin [(fIx (fVar 0) (fC (.int 1))), (fIx (fVar 0) (fC (.int 2)))]), (fB oMax [(fIx (fVar 0) (fC (.int 1))), (fIx (fVar 0) (fC (.int 2)))])]))
      BF.gNil)
      (gRet (fVar 0)))
def F__law_own : FD := bodyD 1 1
    (gSeq (gIf (bB (op2 (oEq false) (fIx (fVar 0) (fC (.int 0))) (fC (.str "fix"))))
      (gRet (fLst []))
      BF.gNil)
      (gSeq (gIf (bB (op2 (oEq false) (fIx (fVar 0) (fC (.int 0))) (fC (.str "both"))))
      (gRet (fLst [(fIx (fVar 0) (fC (.int 1))), (fIx (fVar 0) (fC (.int 2)))]))
      BF.gNil)
      (gRet (fLst [(fIx (fVar 0) (fC (.int 1)))]))))
def B__law_formed_1 : SF :=
    (gSeq (gSet 5 (fz (fIx (fVar 0) (op2 oSub (fVar 4) (fC (.int 1))))))
      (gSeq (gIf (bOr (bB (op2 (oIn true) (fVar 4) (fVar 2))) (bOr (bB (op2 (oInD false) (fCall F__law_key [(fVar 5)]) (fVar 3))) (bB (fCall F__law_idle [(fVar 5), (fVar 1)]))))
      (gRet (fC (.bl false)))
      BF.gNil)
      (gSeq (gApp 3 (fCall F__law_key [(fVar 5)]))
      (gSet 2 (fz (fCat (fVar 2) (fCall F__law_own [(fVar 5)])))))))
def F__law_formed : FD := bodyD 2 6
    (gSeq (gSet 2 (fz (fLst [(fB oLen [(fVar 0)])])))
      (gSeq (gSet 3 (fLst []))
      (gSeq (gFor (iVR (fC (.int 1)) (op2 oAdd (fB oLen [(fVar 0)]) (fC (.int 1)))) (.nm 4) B__law_formed_1)
      (gFrz [3] (gRet (fC (.bl true)))))))
def B_firsts_of_1 : SF :=
    (gIf (bNinT (fVar 3) 1)
      (gPutT 1 (fVar 3) (fVar 2))
      BF.gNil)
def F_firsts_of : FD := bodyD 1 4
    (gSeq (gNewT 1)
      (gSeq (gFor (iE (fVar 0)) (.tp [2, 3]) B_firsts_of_1)
      (gRet (fComp (iS (fVar 0)) (.nm 0) [none, some 0, some 1, some 2] (fTGet 2 (fVar 0))))))
def F_mark_of : FD := bodyD 2 2
    (gRet (fTuple (fComp (iS (fVar 0)) (.nm 0) [none, some 0, some 1] (fIx (fVar 0) (fVar 2)))))
def F_made_by : FD := bodyD 3 5
    (gSeq (gSet 3 (fz (fIx (fVar 0) (fC (.int 0)))))
      (gSeq (gIf (bB (op2 (oEq false) (fVar 3) (fC (.str "fix"))))
      (gRet (fIx (fVar 0) (fC (.int 1))))
      BF.gNil)
      (gSeq (gSet 4 (fz (fIx (fVar 1) (fIx (fVar 0) (fC (.int 1))))))
      (gSeq (gIf (bB (op2 (oEq false) (fVar 3) (fC (.str "mask"))))
      (gRet (op2 oAnd (fVar 4) (fIx (fVar 0) (fC (.int 2)))))
      BF.gNil)
      (gSeq (gIf (bB (op2 (oEq false) (fVar 3) (fC (.str "turn"))))
      (gRet (op2 oXor (fVar 4) (fIx (fVar 0) (fC (.int 2)))))
      BF.gNil)
      (gSeq (gIf (bB (op2 (oEq false) (fVar 3) (fC (.str "both"))))
      (gRet (op2 oXor (fVar 4) (fIx (fVar 1) (fIx (fVar 0) (fC (.int 2))))))
      BF.gNil)
      (gSeq (gIf (bB (op2 (oEq false) (fVar 3) (fC (.str "up"))))
      (gRet (op2 oAnd (op2 oShl (fVar 4) (fIx (fVar 0) (fC (.int 2)))) (fVar 2)))
      BF.gNil)
      (gRet (op2 oShr (fVar 4) (fIx (fVar 0) (fC (.int 2))))))))))))
def B_values_1 : SF :=
    (gApp 4 (fCall F_made_by [(fVar 5), (fVar 4), (fVar 3)]))
def F_values : FD := bodyD 3 6
    (gSeq (gSet 3 (op2 oSub (op2 oShl (fC (.int 1)) (fVar 0)) (fC (.int 1))))
      (gSeq (gSet 4 (fLst [(fVar 2)]))
      (gSeq (gFor (iS (fVar 1)) (.nm 5) B_values_1)
      (gRet (fVar 4)))))
def F_marks_of : FD := bodyD 2 4
    (gSeq (gSet 2 (fz (fCat (fLst [(fC (.int 0))]) (fComp (iR (fVar 0)) (.nm 0) [none, some 0, some 1, some 2, some 3] (op2 oShl (fC (.int 1)) (fVar 0))))))
      (gSeq (gSet 3 (fz (fComp (iL (fVar 2)) (.nm 0) [none, some 0, some 1, some 2, some 3] (fCall F_values [(fVar 1), (fVar 2), (fVar 0)]))))
      (gRet (fComp (iR (op2 oAdd (fB oLen [(fVar 1)]) (fC (.int 1)))) (.nm 0) [none, some 0, some 1, some 2, some 3] (fCall F_mark_of [(fVar 4), (fVar 0)])))))
def F_renumbered : FD := bodyD 2 3
    (gSeq (gSet 2 (fz (fIx (fVar 0) (fC (.int 0)))))
      (gSeq (gIf (bB (op2 (oEq false) (fVar 2) (fC (.str "fix"))))
      (gRet (fVar 0))
      BF.gNil)
      (gSeq (gIf (bB (op2 (oEq false) (fVar 2) (fC (.str "both"))))
      (gRet (fTup [(fVar 2), (fOr (fIx (fVar 1) (fIx (fVar 0) (fC (.int 1)))) (fDGet (fVar 1) (fIx (fVar 0) (fC (.int 1))))), (fOr (fIx (fVar 1) (fIx (fVar 0) (fC (.int 2)))) (fDGet (fVar 1) (fIx (fVar 0) (fC (.int 2)))))]))
      BF.gNil)
      (gRet (fTup [(fVar 2), (fOr (fIx (fVar 1) (fIx (fVar 0) (fC (.int 1)))) (fDGet (fVar 1) (fIx (fVar 0) (fC (.int 1))))), (fIx (fVar 0) (fC (.int 2)))])))))
def F_used_by : FD := bodyD 1 1
    (gSeq (gIf (bB (op2 (oEq false) (fIx (fVar 0) (fC (.int 0))) (fC (.str "fix"))))
      (gRet (fLst []))
      BF.gNil)
      (gSeq (gIf (bB (op2 (oEq false) (fIx (fVar 0) (fC (.int 0))) (fC (.str "both"))))
      (gRet (fLst [(fIx (fVar 0) (fC (.int 1))), (fIx (fVar 0) (fC (.int 2)))]))
      BF.gNil)
      (gRet (fLst [(fIx (fVar 0) (fC (.int 1)))]))))
def B_used_for_1 : SF :=
    (gPut 2 (fVar 4) (fC (.bl true)))
def B_used_for_2 : SF :=
    (gIf (bInD (fVar 3) 2)
      (gFor (iS (fCall F_used_by [(fIx (fVar 0) (op2 oSub (fVar 3) (fC (.int 1))))])) (.nm 4) B_used_for_1)
      BF.gNil)
def F_used_for : FD := bodyD 2 5
    (gSeq (gSet 2 (fDisp1 (fVar 1) (fC (.bl true))))
      (gSeq (gFor (iR3n (fVar 1) (fC (.int 0)) (fNeg (fC (.int 1)))) (.nm 3) B_used_for_2)
      (gRetD 2)))
def B_only_used_1 : SF :=
    (gIf (bInD (fVar 5) 2)
      (gSeq (gApp 3 (fCallD F_renumbered (fIx (fVar 0) (op2 oSub (fVar 5) (fC (.int 1)))) 4))
      (gPut 4 (fVar 5) (fB oLen [(fVar 3)])))
      BF.gNil)
def F_only_used : FD := bodyD 2 6
    (gSeq (gSet 2 (fz (fCall F_used_for [(fVar 0), (fVar 1)])))
      (gSeq (gSet 3 (fLst []))
      (gSeq (gSet 4 (fDisp1 (fC (.int 0)) (fC (.int 0))))
      (gSeq (gFor (iR2 (fC (.int 1)) (op2 oAdd (fVar 1) (fC (.int 1)))) (.nm 5) B_only_used_1)
      (gRet (fVar 3))))))
def F_plain_of : FD := bodyD 3 3
    (gSeq (gIf (bB (fB (oAll fun bs => bs.all id) [(fComp (iS (fVar 1)) (.nm 0) [none, some 0, some 1, some 2] (op2 (oEq false) (fVar 0) (fIx (fVar 2) (fC (.int 0)))))]))
      (gRet (fTup [(fC (.str "fix")), (fIx (fVar 1) (fC (.int 0)))]))
      BF.gNil)
      (gRet (fCall F_renumbered [(fVar 0), (fVar 2)])))
def F_fewer : FD := bodyD 2 5
    (gSeq (gSet 2 (fz (fCall F_marks_of [(fVar 0), (fVar 1)])))
      (gSeq (gSet 3 (fz (fCall F_firsts_of [(fVar 2)])))
      (gSeq (gSet 4 (fz (fComp (iZ (fVar 1) (fSl (fVar 2) (pSome (fC (.int 1))) pNo)) (.tp [0, 1]) [none, none, some 0, some 1, some 2, some 3, some 4] (fCall F_plain_of [(fVar 0), (fVar 1), (fVar 5)]))))
      (gRet (fCall F_only_used [(fVar 4), (fIx (fVar 3) (fNeg (fC (.int 1))))])))))
def F__law_holds : FD := bodyD 2 3
    (gSeq (gSet 2 (fz (fCall F_fewer [(fVar 1), (fList (fVar 0))])))
      (gRet (vAnd (fCall F__law_fine [(fVar 2), (fVar 1), (fB oLen [(fVar 0)])]) (fCall F__law_formed [(fVar 2), (fVar 1)]))))
def F__law_deed : FD := bodyD 3 8
    (gSeq (gSet 3 (op2 oMod (fVar 0) (fC (.int 12))))
      (gSeq (gSet 4 (op2 oSub (op2 oSub (fVar 2) (fC (.int 1))) (op2 oMod (op2 oDiv (fVar 0) (fC (.int 24))) (fIx (fLst [(fVar 2), (fB oMin [(fVar 2), (fC (.int 4))])]) (op2 oMod (op2 oDiv (fVar 0) (fC (.int 12))) (fC (.int 2)))))))
      (gSeq (gSet 5 (op2 oDiv (fVar 0) (fC (.int 24576))))
      (gSeq (gIf (bB (op2 oLt (fVar 3) (fC (.int 5))))
      (gSeq (gSet 6 (fz (fLst [(op2 oDiv (fVar 5) (fC (.int 8))), (op2 oDiv (fVar 5) (fC (.int 8))), (fC (.int 0)), (fNeg (fC (.int 1))), (op2 oMod (op2 oDiv (fVar 5) (fC (.int 8))) (fC (.int 16))), (op2 oSub (fNeg (fC (.int 2))) (op2 oMod (op2 oDiv (fVar 5) (fC (.int 8))) (fC (.int 16)))), (op2 oShl (fC (.int 1)) (op2 oMod (op2 oDiv (fVar 5) (fC (.int 8))) (fVar 1))), (op2 oDiv (fVar 5) (fC (.int 8)))])))
      (gSeq (gSet 7 (op2 oMod (fIx (fVar 6) (op2 oMod (fVar 5) (fC (.int 8)))) (op2 oShl (fC (.int 1)) (fVar 1))))
      (gRet (fIx (fLst [(fTup [(fC (.str "fix")), (fVar 7)]), (fTup [(fC (.str "mask")), (fVar 4), (fVar 7)]), (fTup [(fC (.str "turn")), (fVar 4), (fVar 7)])]) (op2 oDiv (op2 oAdd (fVar 3) (fC (.int 1))) (fC (.int 2)))))))
      BF.gNil)
      (gSeq (gIf (bB (op2 oLt (fVar 3) (fC (.int 8))))
      (gRet (fTup [(fC (.str "both")), (fVar 4), (op2 oMod (fVar 5) (fVar 2))]))
      BF.gNil)
      (gRet (fTup [(fIx (fLst [(fC (.str "up")), (fC (.str "down"))]) (op2 oMod (fVar 3) (fC (.int 2)))), (fVar 4), (fIx (fLst [(op2 oMod (op2 oDiv (fVar 5) (fC (.int 3))) (op2 oAdd (fVar 1) (fC (.int 1)))), (fC (.int 1)), (op2 oDiv (op2 oMul (op2 oMod (op2 oDiv (fVar 5) (fC (.int 3))) (fC (.int 4))) (fVar 1)) (fC (.int 4)))]) (op2 oMod (fVar 5) (fC (.int 3))))])))))))
def B__law_rows_1 : SF :=
    (gIf (bAnd (bB (op2 (oEq false) (op2 oMod (fVar 3) (fC (.int 8))) (fC (.int 0)))) (bB (op2 oGt (fB oLen [(fVar 2)]) (fC (.int 0)))))
      (gSeq (gSet 4 (fz (fIx (fVar 2) (op2 oMod (op2 oDiv (fVar 3) (fC (.int 8))) (fB oLen [(fVar 2)])))))
      (gSeq (gIf (bB (op2 (oEq false) (fIx (fVar 4) (fC (.int 0))) (fC (.str "both"))))
      (gSet 4 (fz (fTup [(fC (.str "both")), (fIx (fVar 4) (fC (.int 2))), (fIx (fVar 4) (fC (.int 1)))])))
      BF.gNil)
      (gApp 2 (fVar 4))))
      (gApp 2 (fCall F__law_deed [(op2 oDiv (fVar 3) (fC (.int 8))), (fVar 0), (op2 oAdd (fB oLen [(fVar 2)]) (fC (.int 1)))])))
def F__law_rows : FD := bodyD 2 5
    (gSeq (gSet 2 (fLst []))
      (gSeq (gFor (iS (fVar 1)) (.nm 3) B__law_rows_1)
      (gRet (fVar 2))))
def F__law_width : FD := bodyD 1 1
    (gRet (fIx (fLst [(fC (.int 1)), (fC (.int 2)), (fC (.int 4)), (fC (.int 8)), (fC (.int 16)), (fC (.int 32)), (fC (.int 64)), (fC (.int 8)), (fC (.int 16)), (fC (.int 4)), (fC (.int 32))]) (op2 oMod (fVar 0) (fC (.int 11)))))
def B_law_1 : SF :=
    (gIf (bNot (bB (fCall F__law_holds [(fCat (fVar 3) (fLst [(fVar 5)])), (fVar 1)])))
      (gRet (fC (.bl false)))
      BF.gNil)
def F_law : FD := bodyD 1 6
    (gSeq (gSet 1 (fz (fCall F__law_width [(fCall F__law_at [(fVar 0), (fC (.int 0))])])))
      (gSeq (gSet 2 (fz (fSl (fVar 0) (pSome (fC (.int 2))) (pSome (fC (.int 63))))))
      (gSeq (gSet 3 (fz (fCall F__law_rows [(fVar 1), (fComp (iR (fB oLen [(fVar 2)])) (.nm 0) [none, some 0, some 1, some 2, some 3, some 4, some 5] (fCall F__law_big [(op2 oAdd (fIx (fVar 3) (fVar 0)) (fCall F__law_at [(fVar 1), (fC (.int 1))])), (fVar 0)]))])))
      (gSeq (gIf (bOr (bNot (bB (fCall F__law_holds [(fVar 3), (fVar 1)]))) (bNot (bB (fCall F__law_holds [(fCall F__law_doubled [(fVar 3)]), (fVar 1)]))))
      (gRet (fC (.bl false)))
      BF.gNil)
      (gSeq (gSet 4 (op2 oMod (fCall F__law_at [(fVar 0), (fC (.int 1))]) (op2 oAdd (fB oLen [(fVar 3)]) (fC (.int 1)))))
      (gSeq (gFor (iL (fLst [(fTup [(fC (.str "turn")), (fVar 4), (fC (.int 0))]), (fTup [(fC (.str "mask")), (fVar 4), (op2 oSub (op2 oShl (fC (.int 1)) (fVar 1)) (fC (.int 1)))]), (fTup [(fC (.str "up")), (fVar 4), (fC (.int 0))]), (fTup [(fC (.str "down")), (fVar 4), (fVar 1)]), (fTup [(fC (.str "both")), (fVar 4), (fVar 4)])])) (.nm 5) B_law_1)
      (gRet (fC (.bl true)))))))))
end
end LW
set_option Elab.async false
set_option linter.all false
set_option maxRecDepth 100000
set_option maxHeartbeats 4000000
namespace LW
open PySem L2 BF
set_option linter.unusedSimpArgs false
theorem str_tab :
  (oEq false (.str "fix") (.str "fix") = some (.bl true)) ∧
  (oEq false (.str "fix") (.str "mask") = some (.bl false)) ∧
  (oEq false (.str "fix") (.str "turn") = some (.bl false)) ∧
  (oEq false (.str "fix") (.str "both") = some (.bl false)) ∧
  (oEq false (.str "fix") (.str "up") = some (.bl false)) ∧
  (oEq false (.str "fix") (.str "down") = some (.bl false)) ∧
  (oEq false (.str "mask") (.str "fix") = some (.bl false)) ∧
  (oEq false (.str "mask") (.str "mask") = some (.bl true)) ∧
  (oEq false (.str "mask") (.str "turn") = some (.bl false)) ∧
  (oEq false (.str "mask") (.str "both") = some (.bl false)) ∧
  (oEq false (.str "mask") (.str "up") = some (.bl false)) ∧
  (oEq false (.str "mask") (.str "down") = some (.bl false)) ∧
  (oEq false (.str "turn") (.str "fix") = some (.bl false)) ∧
  (oEq false (.str "turn") (.str "mask") = some (.bl false)) ∧
  (oEq false (.str "turn") (.str "turn") = some (.bl true)) ∧
  (oEq false (.str "turn") (.str "both") = some (.bl false)) ∧
  (oEq false (.str "turn") (.str "up") = some (.bl false)) ∧
  (oEq false (.str "turn") (.str "down") = some (.bl false)) ∧
  (oEq false (.str "both") (.str "fix") = some (.bl false)) ∧
  (oEq false (.str "both") (.str "mask") = some (.bl false)) ∧
  (oEq false (.str "both") (.str "turn") = some (.bl false)) ∧
  (oEq false (.str "both") (.str "both") = some (.bl true)) ∧
  (oEq false (.str "both") (.str "up") = some (.bl false)) ∧
  (oEq false (.str "both") (.str "down") = some (.bl false)) ∧
  (oEq false (.str "up") (.str "fix") = some (.bl false)) ∧
  (oEq false (.str "up") (.str "mask") = some (.bl false)) ∧
  (oEq false (.str "up") (.str "turn") = some (.bl false)) ∧
  (oEq false (.str "up") (.str "both") = some (.bl false)) ∧
  (oEq false (.str "up") (.str "up") = some (.bl true)) ∧
  (oEq false (.str "up") (.str "down") = some (.bl false)) ∧
  (oEq false (.str "down") (.str "fix") = some (.bl false)) ∧
  (oEq false (.str "down") (.str "mask") = some (.bl false)) ∧
  (oEq false (.str "down") (.str "turn") = some (.bl false)) ∧
  (oEq false (.str "down") (.str "both") = some (.bl false)) ∧
  (oEq false (.str "down") (.str "up") = some (.bl false)) ∧
  (oEq false (.str "down") (.str "down") = some (.bl true)) := by
  refine ⟨?_, ?_, ?_, ?_, ?_, ?_, ?_, ?_, ?_, ?_, ?_, ?_, ?_, ?_, ?_, ?_, ?_, ?_, ?_, ?_, ?_, ?_, ?_, ?_, ?_, ?_, ?_, ?_, ?_, ?_, ?_, ?_, ?_, ?_, ?_, ?_⟩ <;> kernel_rfl
inductive Deed where
  | fix (m : Nat) | mask (a m : Nat) | turn (a m : Nat) | both (a b : Nat) | up (a n : Nat) | down (a n : Nat)
def enc : Deed → Dm
  | .fix m => .tup [.str "fix", .int m]
  | .mask a m => .tup [.str "mask", .int a, .int m]
  | .turn a m => .tup [.str "turn", .int a, .int m]
  | .both a b => .tup [.str "both", .int a, .int b]
  | .up a n => .tup [.str "up", .int a, .int n]
  | .down a n => .tup [.str "down", .int a, .int n]
def Good (w many : Nat) : Deed → Prop
  | .fix m => m < 2 ^ w
  | .mask a m => a < many ∧ m < 2 ^ w
  | .turn a m => a < many ∧ m < 2 ^ w
  | .both a b => a < many ∧ b < many
  | .up a n => a < many ∧ n ≤ w
  | .down a n => a < many ∧ n ≤ w
theorem okEq_int (i : Int) : okEq (.int i) = true := by simp [okEq, toPy, PySem.SeqAt.shaped, PyData.canLay0, PyData.depth]
theorem eqD_int (i j : Int) : eqD (.int i) (.int j) = (i == j) := by simp [eqD, toPy, PyData.eqv]
theorem oEq_int (neg : Bool) (i j : Int) : oEq neg (.int i) (.int j) = some (.bl (if neg then !(i == j) else i == j)) := by simp [oEq, okEq_int, eqD_int]
def GoodRow (w : Nat) (ds : List Deed) : Prop := ∀ i d, ds[i]? = some d → Good w (i + 1) d
theorem goodRow_snoc {w : Nat} {ds : List Deed} {d : Deed} (h : GoodRow w ds) (hd : Good w (ds.length + 1) d) : GoodRow w (ds ++ [d]) := fun i e he => by
  rcases Nat.lt_trichotomy i ds.length with hl | rfl | hg
  · rw [List.getElem?_append_left hl] at he; exact h i e he
  · rw [List.getElem?_append_right (Nat.le_refl _), Nat.sub_self] at he
    cases he
    exact hd
  · rw [List.getElem?_append_right (by omega)] at he
    obtain ⟨n, hn⟩ : ∃ n, i - ds.length = n + 1 := ⟨i - ds.length - 1, by omega⟩
    rw [hn] at he
    simp at he
def step (w : Nat) (vs : List Nat) : Deed → Nat
  | .fix m => m
  | .mask a m => vs.getD a 0 &&& m
  | .turn a m => vs.getD a 0 ^^^ m
  | .both a b => vs.getD a 0 ^^^ vs.getD b 0
  | .up a n => vs.getD a 0 * 2 ^ n % 2 ^ w
  | .down a n => vs.getD a 0 / 2 ^ n
def vals (w : Nat) : List Nat → List Deed → List Nat
  | vs, [] => vs
  | vs, d :: r => vals w (vs ++ [step w vs d]) r
def nats (vs : List Nat) : List Dm := vs.map fun (v : Nat) => Dm.int (v : Int)
theorem getD_lt {w : Nat} {vs : List Nat} (h : ∀ v ∈ vs, v < 2 ^ w) (a : Nat) : vs.getD a 0 < 2 ^ w := by
  rw [List.getD_eq_getElem?_getD]
  cases q : vs[a]? with
  | none => exact Nat.two_pow_pos w
  | some v => exact h v (List.mem_of_getElem? q)
theorem step_lt {w : Nat} {vs : List Nat} {d : Deed} (h : ∀ v ∈ vs, v < 2 ^ w) (g : Good w vs.length d) : step w vs d < 2 ^ w := by
  cases d with
  | fix m => exact g
  | mask a m => exact Nat.lt_of_le_of_lt Nat.and_le_right g.2
  | turn a m => exact Nat.xor_lt_two_pow (getD_lt h a) g.2
  | both a b => exact Nat.xor_lt_two_pow (getD_lt h a) (getD_lt h b)
  | up a n => exact Nat.mod_lt _ (Nat.two_pow_pos w)
  | down a n => exact Nat.lt_of_le_of_lt (Nat.div_le_self _ _) (getD_lt h a)
theorem at_nats {vs : List Nat} {a : Nat} (h : a < vs.length) : atI (nats vs) (a : Int) = some (.int (vs.getD a 0 : Nat)) := by
  refine atI_nat ?_
  unfold nats
  rw [List.getElem?_map, List.getD_eq_getElem?_getD, List.getElem?_eq_getElem h]
  rfl
theorem vals_len (w : Nat) : ∀ (ds : List Deed) (vs : List Nat), (vals w vs ds).length = vs.length + ds.length
  | [], vs => rfl
  | d :: ds, vs => by
    show (vals w (vs ++ [step w vs d]) ds).length = _
    rw [vals_len w ds, List.length_append, List.length_singleton, List.length_cons]; omega
theorem vals_lt (w : Nat) : ∀ (ds : List Deed) (vs : List Nat), (∀ v ∈ vs, v < 2 ^ w) → (∀ i d, ds[i]? = some d → Good w (vs.length + i) d) → ∀ v ∈ vals w vs ds, v < 2 ^ w
  | [], vs, hv, _ => hv
  | d :: ds, vs, hv, hg => by
    have hs := step_lt hv (show Good w vs.length d from hg 0 d rfl)
    refine vals_lt w ds (vs ++ [step w vs d]) (fun v h => (List.mem_append.mp h).elim (hv v) fun z => by rw [List.mem_singleton.mp z]; exact hs) fun i d' h => ?_
    have := hg (i + 1) d' h
    rw [List.length_append, List.length_singleton]
    rw [show vs.length + (i + 1) = vs.length + 1 + i by omega] at this
    exact this
theorem nats_last {vs : List Nat} (h : vs ≠ []) : atI (nats vs) (-1) = some (.int (vs.getLast h : Nat)) := by
  have e : nats vs = nats vs.dropLast ++ [.int (vs.getLast h : Nat)] := by
    have := congrArg nats (List.dropLast_concat_getLast h).symm
    rw [this]
    unfold nats
    rw [List.map_append]
    simp
  rw [e]
  exact atI_last _ _
theorem whole_ok (i : Int) : F__law_whole [.int i] = some (.sh (.bl true)) := by
  have h1 : isTy (.int i) "int" = true := rfl
  have h2 : isTy (.int i) "bool" = false := rfl
  simp [F__law_whole, bodyD, gRet, gSeq, gIf, gSet, gApp, BF.gNil, gFrz, frz, op2, dt, fVar, fC, evs, fTup, fLst, fCall, fB, fIx, ixD, fSl, slD, pNo, pSome, fz, own?, bB, bAnd, bOr, bNot, vAnd, vOr, vNot, fIsi, fList, fNeg, fCat, fRep, oAdd, oSub, oMul, oDiv, oMod, oPow, oShl, oShr, oAnd, oOr, oXor, oLt, oLe, oGt, oGe, oMin, oLen, oSum, h1, h2]
theorem okEq_rows (ds : List Deed) : okEq (.lst (ds.map enc)) = true := by
  refine okEq_lst fun d hd => ?_
  obtain ⟨dd, _, rfl⟩ := List.mem_map.mp hd
  have s1 : PyData.strOk "fix" = true := by decide +kernel
  have s2 : PyData.strOk "mask" = true := by decide +kernel
  have s3 : PyData.strOk "turn" = true := by decide +kernel
  have s4 : PyData.strOk "both" = true := by decide +kernel
  have s5 : PyData.strOk "up" = true := by decide +kernel
  have s6 : PyData.strOk "down" = true := by decide +kernel
  cases dd <;> simp [enc, toPy, toPys, PyData.canLay0, PyData.canLayAll0, PyData.depth, PyData.depthAll, s1, s2, s3, s4, s5, s6]
theorem vals_app (w : Nat) : ∀ (ds es : List Deed) (vs : List Nat), vals w vs (ds ++ es) = vals w (vals w vs ds) es
  | [], es, vs => rfl
  | d :: ds, es, vs => vals_app w ds es (vs ++ [step w vs d])
def nameOf : Deed → Str
  | .fix _ => "fix"
  | .mask _ _ => "mask"
  | .turn _ _ => "turn"
  | .both _ _ => "both"
  | .up _ _ => "up"
  | .down _ _ => "down"
def numsOf : Deed → List Nat
  | .fix m => [m]
  | .mask a m => [a, m]
  | .turn a m => [a, m]
  | .both a b => [a, b]
  | .up a n => [a, n]
  | .down a n => [a, n]
theorem enc_eq (d : Deed) : enc d = .tup (.str (nameOf d) :: nats (numsOf d)) := by cases d <;> rfl
theorem at_ok (ns : List Int) (k : Nat) : F__law_at [.lst (ns.map .int), .int k] = some (.sh (.int (ns.getD k 0))) := by
  have hl : ∀ {δ : List Sl}, δ[0]? = some (.sh (.lst (ns.map .int))) → fB oLen [fVar 0] δ = some (.sh (.int ns.length)) := fun {δ} h => fB_of (rs := [.sh (.lst (ns.map .int))]) (evs_cons (r := .sh (.lst (ns.map .int))) (by unfold fVar; rw [h]) evs_nil) (by simp [oLen])
  by_cases h : k < ns.length
  · refine body_rt (r := (Rs.sh (.int (ns.getD k 0))).out) (δ := [.sh (.lst (ns.map .int)), .sh (.int k)]) rfl rfl (seq_rt (if_t (bB_of (dt_of (op2_of (a := .int k) (b := .int ns.length) (d := .bl true) (dt_of rfl) (dt_of (hl rfl)) (by simp [oLt]; omega)))) (ret_of (ix_of (a := .lst (ns.map .int)) (i := (k : Int)) (dt_of rfl) (dt_of rfl) (atI_nat ?_)))))
    rw [List.getElem?_map, List.getD_eq_getElem?_getD, List.getElem?_eq_getElem h]
    rfl
  · refine body_rt (r := (Rs.sh (.int (ns.getD k 0))).out) (δ := [.sh (.lst (ns.map .int)), .sh (.int k)]) rfl rfl (seq_nx (if_f (bB_of (dt_of (op2_of (a := .int k) (b := .int ns.length) (d := .bl false) (dt_of rfl) (dt_of (hl rfl)) (by simp [oLt]; omega)))) nil_nx) (ret_of ?_))
    rw [List.getD_eq_getElem?_getD, List.getElem?_eq_none (by omega)]
    rfl
theorem mixed2_ok (c : Int) (k : Nat) (hk : k ≤ 100000) : ∃ m : Nat, F__law_mixed [.int c, .int k] = some (.sh (.int m)) ∧ m < 2 ^ 31 := by
  by_cases h : 10000000000000000000000000000000000000000 ≤ c
  · have h3 : powOk 1 (31 * ((k : Int) % 60)) = true := powOk_one (by omega) (by omega)
    have h5 := pow2_pos (31 * ((k : Int) % 60)).toNat
    have h6 : divOk ((2 : Int) ^ (31 * ((k : Int) % 60)).toNat) = true := divOk_pow (by omega)
    have e : F__law_mixed [.int c, .int k] = some (.sh (.int ((c - 10000000000000000000000000000000000000000) / 2 ^ (31 * ((k : Int) % 60)).toNat % 2147483648))) :=
      body_rt rfl rfl (seq_rt (if_t (by simp [bodyD, gRet, gSeq, gIf, gSet, gApp, BF.gNil, gFrz, frz, op2, dt, fVar, fC, evs, fTup, fLst, fCall, fB, fIx, ixD, fSl, slD, pNo, pSome, fz, own?, bB, bAnd, bOr, bNot, vAnd, vOr, vNot, fIsi, fList, fNeg, fCat, fRep, oAdd, oSub, oMul, oDiv, oMod, oPow, oShl, oShr, oAnd, oOr, oXor, oLt, oLe, oGt, oGe, oMin, oLen, oSum, h]) (by simp [bodyD, gRet, gSeq, gIf, gSet, gApp, BF.gNil, gFrz, frz, op2, dt, fVar, fC, evs, fTup, fLst, fCall, fB, fIx, ixD, fSl, slD, pNo, pSome, fz, own?, bB, bAnd, bOr, bNot, vAnd, vOr, vNot, fIsi, fList, fNeg, fCat, fRep, oAdd, oSub, oMul, oDiv, oMod, oPow, oShl, oShr, oAnd, oOr, oXor, oLt, oLe, oGt, oGe, oMin, oLen, oSum, h3, h5, h6])))
    obtain ⟨m, hm⟩ := Int.eq_ofNat_of_zero_le (Int.emod_nonneg ((c - 10000000000000000000000000000000000000000) / 2 ^ (31 * ((k : Int) % 60)).toNat) (show (2147483648 : Int) ≠ 0 by decide))
    have h8 := Int.emod_lt_of_pos ((c - 10000000000000000000000000000000000000000) / 2 ^ (31 * ((k : Int) % 60)).toNat) (show (0 : Int) < 2147483648 by decide)
    rw [hm] at e h8
    exact ⟨m, e, by omega⟩
  · have e : ∃ n : Int, F__law_mixed [.int c, .int k] = some (.sh (.int (n % 2147483587))) := by
      have g1 := Int.emod_nonneg (c * 1103515245 + 7919 * k * k + k) (show (2147483647 : Int) ≠ 0 by decide)
      have g2 := Int.emod_lt_of_pos (c * 1103515245 + 7919 * k * k + k) (show (0 : Int) < 2147483647 by decide)
      have m1 : mulOk (7919 * (k : Int)) (k : Int) = true := mulOk_right (by omega) (by omega)
      generalize hn : (c * 1103515245 + 7919 * k * k + k) % 2147483647 = n at g1 g2
      have m2 : mulOk n n = true := mulOk_right (by omega) (by omega)
      refine ⟨n * n % 2147483629 * 69621, body_rt rfl rfl (seq_nx (if_f (by simp [bodyD, gRet, gSeq, gIf, gSet, gApp, BF.gNil, gFrz, frz, op2, dt, fVar, fC, evs, fTup, fLst, fCall, fB, fIx, ixD, fSl, slD, pNo, pSome, fz, own?, bB, bAnd, bOr, bNot, vAnd, vOr, vNot, fIsi, fList, fNeg, fCat, fRep, oAdd, oSub, oMul, oDiv, oMod, oPow, oShl, oShr, oAnd, oOr, oXor, oLt, oLe, oGt, oGe, oMin, oLen, oSum]; omega) nil_nx) (seq_nx (set_sh (d := .int n) (by simp [bodyD, gRet, gSeq, gIf, gSet, gApp, BF.gNil, gFrz, frz, op2, dt, fVar, fC, evs, fTup, fLst, fCall, fB, fIx, ixD, fSl, slD, pNo, pSome, fz, own?, bB, bAnd, bOr, bNot, vAnd, vOr, vNot, fIsi, fList, fNeg, fCat, fRep, oAdd, oSub, oMul, oDiv, oMod, oPow, oShl, oShr, oAnd, oOr, oXor, oLt, oLe, oGt, oGe, oMin, oLen, oSum, m1, hn])) (seq_nx (set_sh (d := .int (n * n % 2147483629)) (by simp [bodyD, gRet, gSeq, gIf, gSet, gApp, BF.gNil, gFrz, frz, op2, dt, fVar, fC, evs, fTup, fLst, fCall, fB, fIx, ixD, fSl, slD, pNo, pSome, fz, own?, bB, bAnd, bOr, bNot, vAnd, vOr, vNot, fIsi, fList, fNeg, fCat, fRep, oAdd, oSub, oMul, oDiv, oMod, oPow, oShl, oShr, oAnd, oOr, oXor, oLt, oLe, oGt, oGe, oMin, oLen, oSum, m2])) (by simp [bodyD, gRet, gSeq, gIf, gSet, gApp, BF.gNil, gFrz, frz, op2, dt, fVar, fC, evs, fTup, fLst, fCall, fB, fIx, ixD, fSl, slD, pNo, pSome, fz, own?, bB, bAnd, bOr, bNot, vAnd, vOr, vNot, fIsi, fList, fNeg, fCat, fRep, oAdd, oSub, oMul, oDiv, oMod, oPow, oShl, oShr, oAnd, oOr, oXor, oLt, oLe, oGt, oGe, oMin, oLen, oSum]))))⟩
    obtain ⟨n, e⟩ := e
    obtain ⟨m, hm⟩ := Int.eq_ofNat_of_zero_le (Int.emod_nonneg n (show (2147483587 : Int) ≠ 0 by decide))
    have h8 := Int.emod_lt_of_pos n (show (0 : Int) < 2147483587 by decide)
    rw [hm] at e h8
    exact ⟨m, e, by omega⟩
def Wid (w : Nat) : Prop := w = 1 ∨ w = 2 ∨ w = 4 ∨ w = 8 ∨ w = 16 ∨ w = 32 ∨ w = 64
theorem Wid.le {w : Nat} (h : Wid w) : 1 ≤ w ∧ w ≤ 64 := by unfold Wid at h; omega
theorem width2_ok (c : Int) : ∃ w : Nat, Wid w ∧ F__law_width [.int c] = some (.sh (.int w)) := by
  have key : ∀ i : Int, 0 ≤ i → i < 11 → ∃ w : Nat, Wid w ∧ atI [Dm.int 1, .int 2, .int 4, .int 8, .int 16, .int 32, .int 64, .int 8, .int 16, .int 4, .int 32] i = some (.int (w : Int)) := fun i h0 h1 => by
    rcases (show i = 0 ∨ i = 1 ∨ i = 2 ∨ i = 3 ∨ i = 4 ∨ i = 5 ∨ i = 6 ∨ i = 7 ∨ i = 8 ∨ i = 9 ∨ i = 10 by omega) with rfl | rfl | rfl | rfl | rfl | rfl | rfl | rfl | rfl | rfl | rfl
    · exact ⟨1, by unfold Wid; omega, rfl⟩
    · exact ⟨2, by unfold Wid; omega, rfl⟩
    · exact ⟨4, by unfold Wid; omega, rfl⟩
    · exact ⟨8, by unfold Wid; omega, rfl⟩
    · exact ⟨16, by unfold Wid; omega, rfl⟩
    · exact ⟨32, by unfold Wid; omega, rfl⟩
    · exact ⟨64, by unfold Wid; omega, rfl⟩
    · exact ⟨8, by unfold Wid; omega, rfl⟩
    · exact ⟨16, by unfold Wid; omega, rfl⟩
    · exact ⟨4, by unfold Wid; omega, rfl⟩
    · exact ⟨32, by unfold Wid; omega, rfl⟩
  obtain ⟨w, hw, e⟩ := key (c % 11) (by omega) (by omega)
  refine ⟨w, hw, body_rt (r := (Rs.sh (.int w)).out) (δ := [.sh (.int c)]) rfl rfl (ret_of (ix_of (a := .lst [Dm.int 1, .int 2, .int 4, .int 8, .int 16, .int 32, .int 64, .int 8, .int 16, .int 4, .int 32]) (i := c % 11) (dt_of (lst_of (rs := [.sh (Dm.int 1), .sh (.int 2), .sh (.int 4), .sh (.int 8), .sh (.int 16), .sh (.int 32), .sh (.int 64), .sh (.int 8), .sh (.int 16), .sh (.int 4), .sh (.int 32)]) rfl rfl (by rw [line24]; simp))) (dt_of (op2_of (d := .int (c % 11)) (dt_of rfl) (dt_of rfl) (by simp [oMod]))) e))⟩
theorem in_lst_tab :
  (oIn false (.str (("up" : String) : Str)) (.lst [.str (("up" : String) : Str), .str (("down" : String) : Str)]) = some (.bl true)) ∧
  (oIn false (.str (("down" : String) : Str)) (.lst [.str (("up" : String) : Str), .str (("down" : String) : Str)]) = some (.bl true)) ∧
  (oIn false (.str (("mask" : String) : Str)) (.lst [.str (("up" : String) : Str), .str (("down" : String) : Str)]) = some (.bl false)) ∧
  (oIn false (.str (("turn" : String) : Str)) (.lst [.str (("up" : String) : Str), .str (("down" : String) : Str)]) = some (.bl false)) ∧
  (oIn false (.str (("mask" : String) : Str)) (.lst [.str (("mask" : String) : Str), .str (("turn" : String) : Str)]) = some (.bl true)) ∧
  (oIn false (.str (("turn" : String) : Str)) (.lst [.str (("mask" : String) : Str), .str (("turn" : String) : Str)]) = some (.bl true)) := by
  refine ⟨?_, ?_, ?_, ?_, ?_, ?_⟩ <;> kernel_rfl
theorem fine_row_ok (w many : Nat) (hw : w ≤ 64) (d : Deed) (g : Good w many d) : F__law_fine_row [enc d, .int w, .int many] = some (.sh (.bl true)) := by
  have n0 : ∀ (x : Str) (r : List Dm), atI (Dm.str x :: r) 0 = some (.str x) := fun x r => atI_nat (j := 0) rfl
  have n1 : ∀ (x : Dm) (y : Dm) (r : List Dm), atI (x :: y :: r) 1 = some y := fun x y r => atI_nat (j := 1) rfl
  have n2 : ∀ (x y z : Dm) (r : List Dm), atI (x :: y :: z :: r) 2 = some z := fun x y z r => atI_nat (j := 2) rfl
  have p : powOk 1 (w : Int) = true := powOk_one (by omega) (by omega)
  have e2 : ((2 ^ w : Nat) : Int) = (2 : Int) ^ w := by push_cast; rfl
  have hx0 : ∀ {δ : List Sl}, δ[0]? = some (.sh (enc d)) → fIx (fVar 0) (fC (.int 0)) δ = some (.sh (.str (nameOf d))) := fun {δ} h => ix_of (a := enc d) (i := 0) (dt_of (r := .sh (enc d)) (by unfold fVar; rw [h])) (dt_of rfl) (by rw [enc_eq]; exact n0 _ _)
  obtain ⟨t, e⟩ := loop_all (i := 3) (b := B__law_fine_row_1) (δ := [.sh (enc d), .sh (.int w), .sh (.int many), .un, .un]) (nats (numsOf d)) .un (fun x hx => by
    unfold nats at hx
    obtain ⟨n, _, rfl⟩ := List.mem_map.mp hx
    exact if_f (or_f (not_t (bB_of (dt_of (call_of (rs := [.sh (.int n)]) rfl (whole_ok n) rfl)))) (bB_of (b := false) (dt_of (op2_of (a := .int n) (b := .int 0) (d := .bl false) (dt_of rfl) (dt_of rfl) (by simp [oLt]))))) nil_nx)
  refine body_rt (r := (Rs.sh (.bl true)).out) (δ := [.sh (enc d), .sh (.int w), .sh (.int many), .un, .un]) rfl rfl (seq_nx (if_f (or_f (not_t (bB_of (b := true) (dt_of (isi_of (d := enc d) (dt_of rfl)) (by rw [enc_eq]; rfl)))) (not_t (bB_of (b := true) (dt_of (isi_of (d := .str (nameOf d)) (dt_of (hx0 rfl))))))) nil_nx) (seq_nx (for_of (iS_of (sl_tail (x := .str (nameOf d)) (ds := nats (numsOf d)) (dt_of (r := .sh (enc d)) rfl (enc_eq d))) rfl) e) (seq_nx (set_sh (d := .int (2 ^ w - 1)) (by simp [bodyD, gRet, gSeq, gIf, gSet, gApp, BF.gNil, gFrz, frz, op2, dt, fVar, fC, evs, fTup, fLst, fCall, fB, fIx, ixD, fSl, slD, pNo, pSome, fz, own?, bB, bAnd, bOr, bNot, vAnd, vOr, vNot, fIsi, fList, fNeg, fCat, fRep, oAdd, oSub, oMul, oDiv, oMod, oPow, oShl, oShr, oAnd, oOr, oXor, oLt, oLe, oGt, oGe, oMin, oLen, oSum, p])) ?_)))
  cases d with
  | fix m =>
    have g' : (m : Int) < 2 ^ w := by rw [← e2]; exact_mod_cast g
    have g'' : (m : Int) ≤ 2 ^ w - 1 := by omega
    refine seq_rt (if_t (by simp [bodyD, gRet, gSeq, gIf, gSet, gApp, BF.gNil, gFrz, frz, op2, dt, fVar, fC, evs, fTup, fLst, fCall, fB, fIx, ixD, fSl, slD, pNo, pSome, fz, own?, bB, bAnd, bOr, bNot, vAnd, vOr, vNot, fIsi, fList, fNeg, fCat, fRep, oAdd, oSub, oMul, oDiv, oMod, oPow, oShl, oShr, oAnd, oOr, oXor, oLt, oLe, oGt, oGe, oMin, oLen, oSum, enc, n0, str_tab]) ?_)
    simp [bodyD, gRet, gSeq, gIf, gSet, gApp, BF.gNil, gFrz, frz, op2, dt, fVar, fC, evs, fTup, fLst, fCall, fB, fIx, ixD, fSl, slD, pNo, pSome, fz, own?, bB, bAnd, bOr, bNot, vAnd, vOr, vNot, fIsi, fList, fNeg, fCat, fRep, oAdd, oSub, oMul, oDiv, oMod, oPow, oShl, oShr, oAnd, oOr, oXor, oLt, oLe, oGt, oGe, oMin, oLen, oSum, enc, n0, n1, oLen, oEq_int, g'']
  | mask a m =>
    have g1 : (a : Int) < many := by exact_mod_cast g.1
    have g2 : (m : Int) < 2 ^ w := by rw [← e2]; exact_mod_cast g.2
    have g3 : (m : Int) ≤ 2 ^ w - 1 := by omega
    refine seq_nx (if_f (by simp [bodyD, gRet, gSeq, gIf, gSet, gApp, BF.gNil, gFrz, frz, op2, dt, fVar, fC, evs, fTup, fLst, fCall, fB, fIx, ixD, fSl, slD, pNo, pSome, fz, own?, bB, bAnd, bOr, bNot, vAnd, vOr, vNot, fIsi, fList, fNeg, fCat, fRep, oAdd, oSub, oMul, oDiv, oMod, oPow, oShl, oShr, oAnd, oOr, oXor, oLt, oLe, oGt, oGe, oMin, oLen, oSum, enc, n0, str_tab]) nil_nx) (seq_nx (if_f (by simp [bodyD, gRet, gSeq, gIf, gSet, gApp, BF.gNil, gFrz, frz, op2, dt, fVar, fC, evs, fTup, fLst, fCall, fB, fIx, ixD, fSl, slD, pNo, pSome, fz, own?, bB, bAnd, bOr, bNot, vAnd, vOr, vNot, fIsi, fList, fNeg, fCat, fRep, oAdd, oSub, oMul, oDiv, oMod, oPow, oShl, oShr, oAnd, oOr, oXor, oLt, oLe, oGt, oGe, oMin, oLen, oSum, enc, n0, n1, oLen, oEq_int]; omega) nil_nx) (seq_nx (if_f (by simp [bodyD, gRet, gSeq, gIf, gSet, gApp, BF.gNil, gFrz, frz, op2, dt, fVar, fC, evs, fTup, fLst, fCall, fB, fIx, ixD, fSl, slD, pNo, pSome, fz, own?, bB, bAnd, bOr, bNot, vAnd, vOr, vNot, fIsi, fList, fNeg, fCat, fRep, oAdd, oSub, oMul, oDiv, oMod, oPow, oShl, oShr, oAnd, oOr, oXor, oLt, oLe, oGt, oGe, oMin, oLen, oSum, enc, n0, str_tab]) nil_nx) (seq_nx (if_f (by simp [bodyD, gRet, gSeq, gIf, gSet, gApp, BF.gNil, gFrz, frz, op2, dt, fVar, fC, evs, fTup, fLst, fCall, fB, fIx, ixD, fSl, slD, pNo, pSome, fz, own?, bB, bAnd, bOr, bNot, vAnd, vOr, vNot, fIsi, fList, fNeg, fCat, fRep, oAdd, oSub, oMul, oDiv, oMod, oPow, oShl, oShr, oAnd, oOr, oXor, oLt, oLe, oGt, oGe, oMin, oLen, oSum, enc, n0, in_lst_tab, line24]) nil_nx) (by simp [bodyD, gRet, gSeq, gIf, gSet, gApp, BF.gNil, gFrz, frz, op2, dt, fVar, fC, evs, fTup, fLst, fCall, fB, fIx, ixD, fSl, slD, pNo, pSome, fz, own?, bB, bAnd, bOr, bNot, vAnd, vOr, vNot, fIsi, fList, fNeg, fCat, fRep, oAdd, oSub, oMul, oDiv, oMod, oPow, oShl, oShr, oAnd, oOr, oXor, oLt, oLe, oGt, oGe, oMin, oLen, oSum, enc, n0, n2, in_lst_tab, line24, g3]))))
  | turn a m =>
    have g1 : (a : Int) < many := by exact_mod_cast g.1
    have g2 : (m : Int) < 2 ^ w := by rw [← e2]; exact_mod_cast g.2
    have g3 : (m : Int) ≤ 2 ^ w - 1 := by omega
    refine seq_nx (if_f (by simp [bodyD, gRet, gSeq, gIf, gSet, gApp, BF.gNil, gFrz, frz, op2, dt, fVar, fC, evs, fTup, fLst, fCall, fB, fIx, ixD, fSl, slD, pNo, pSome, fz, own?, bB, bAnd, bOr, bNot, vAnd, vOr, vNot, fIsi, fList, fNeg, fCat, fRep, oAdd, oSub, oMul, oDiv, oMod, oPow, oShl, oShr, oAnd, oOr, oXor, oLt, oLe, oGt, oGe, oMin, oLen, oSum, enc, n0, str_tab]) nil_nx) (seq_nx (if_f (by simp [bodyD, gRet, gSeq, gIf, gSet, gApp, BF.gNil, gFrz, frz, op2, dt, fVar, fC, evs, fTup, fLst, fCall, fB, fIx, ixD, fSl, slD, pNo, pSome, fz, own?, bB, bAnd, bOr, bNot, vAnd, vOr, vNot, fIsi, fList, fNeg, fCat, fRep, oAdd, oSub, oMul, oDiv, oMod, oPow, oShl, oShr, oAnd, oOr, oXor, oLt, oLe, oGt, oGe, oMin, oLen, oSum, enc, n0, n1, oLen, oEq_int]; omega) nil_nx) (seq_nx (if_f (by simp [bodyD, gRet, gSeq, gIf, gSet, gApp, BF.gNil, gFrz, frz, op2, dt, fVar, fC, evs, fTup, fLst, fCall, fB, fIx, ixD, fSl, slD, pNo, pSome, fz, own?, bB, bAnd, bOr, bNot, vAnd, vOr, vNot, fIsi, fList, fNeg, fCat, fRep, oAdd, oSub, oMul, oDiv, oMod, oPow, oShl, oShr, oAnd, oOr, oXor, oLt, oLe, oGt, oGe, oMin, oLen, oSum, enc, n0, str_tab]) nil_nx) (seq_nx (if_f (by simp [bodyD, gRet, gSeq, gIf, gSet, gApp, BF.gNil, gFrz, frz, op2, dt, fVar, fC, evs, fTup, fLst, fCall, fB, fIx, ixD, fSl, slD, pNo, pSome, fz, own?, bB, bAnd, bOr, bNot, vAnd, vOr, vNot, fIsi, fList, fNeg, fCat, fRep, oAdd, oSub, oMul, oDiv, oMod, oPow, oShl, oShr, oAnd, oOr, oXor, oLt, oLe, oGt, oGe, oMin, oLen, oSum, enc, n0, in_lst_tab, line24]) nil_nx) (by simp [bodyD, gRet, gSeq, gIf, gSet, gApp, BF.gNil, gFrz, frz, op2, dt, fVar, fC, evs, fTup, fLst, fCall, fB, fIx, ixD, fSl, slD, pNo, pSome, fz, own?, bB, bAnd, bOr, bNot, vAnd, vOr, vNot, fIsi, fList, fNeg, fCat, fRep, oAdd, oSub, oMul, oDiv, oMod, oPow, oShl, oShr, oAnd, oOr, oXor, oLt, oLe, oGt, oGe, oMin, oLen, oSum, enc, n0, n2, in_lst_tab, line24, g3]))))
  | both a m =>
    have g1 : (a : Int) < many := by exact_mod_cast g.1
    have g2 : (m : Int) < many := by exact_mod_cast g.2
    refine seq_nx (if_f (by simp [bodyD, gRet, gSeq, gIf, gSet, gApp, BF.gNil, gFrz, frz, op2, dt, fVar, fC, evs, fTup, fLst, fCall, fB, fIx, ixD, fSl, slD, pNo, pSome, fz, own?, bB, bAnd, bOr, bNot, vAnd, vOr, vNot, fIsi, fList, fNeg, fCat, fRep, oAdd, oSub, oMul, oDiv, oMod, oPow, oShl, oShr, oAnd, oOr, oXor, oLt, oLe, oGt, oGe, oMin, oLen, oSum, enc, n0, str_tab]) nil_nx) (seq_nx (if_f (by simp [bodyD, gRet, gSeq, gIf, gSet, gApp, BF.gNil, gFrz, frz, op2, dt, fVar, fC, evs, fTup, fLst, fCall, fB, fIx, ixD, fSl, slD, pNo, pSome, fz, own?, bB, bAnd, bOr, bNot, vAnd, vOr, vNot, fIsi, fList, fNeg, fCat, fRep, oAdd, oSub, oMul, oDiv, oMod, oPow, oShl, oShr, oAnd, oOr, oXor, oLt, oLe, oGt, oGe, oMin, oLen, oSum, enc, n0, n1, oLen, oEq_int]; omega) nil_nx) (seq_rt (if_t (by simp [bodyD, gRet, gSeq, gIf, gSet, gApp, BF.gNil, gFrz, frz, op2, dt, fVar, fC, evs, fTup, fLst, fCall, fB, fIx, ixD, fSl, slD, pNo, pSome, fz, own?, bB, bAnd, bOr, bNot, vAnd, vOr, vNot, fIsi, fList, fNeg, fCat, fRep, oAdd, oSub, oMul, oDiv, oMod, oPow, oShl, oShr, oAnd, oOr, oXor, oLt, oLe, oGt, oGe, oMin, oLen, oSum, enc, n0, str_tab]) (by simp [bodyD, gRet, gSeq, gIf, gSet, gApp, BF.gNil, gFrz, frz, op2, dt, fVar, fC, evs, fTup, fLst, fCall, fB, fIx, ixD, fSl, slD, pNo, pSome, fz, own?, bB, bAnd, bOr, bNot, vAnd, vOr, vNot, fIsi, fList, fNeg, fCat, fRep, oAdd, oSub, oMul, oDiv, oMod, oPow, oShl, oShr, oAnd, oOr, oXor, oLt, oLe, oGt, oGe, oMin, oLen, oSum, enc, n0, n2]; omega))))
  | up a m =>
    have g1 : (a : Int) < many := by exact_mod_cast g.1
    have g2 : m ≤ w := g.2
    refine seq_nx (if_f (by simp [bodyD, gRet, gSeq, gIf, gSet, gApp, BF.gNil, gFrz, frz, op2, dt, fVar, fC, evs, fTup, fLst, fCall, fB, fIx, ixD, fSl, slD, pNo, pSome, fz, own?, bB, bAnd, bOr, bNot, vAnd, vOr, vNot, fIsi, fList, fNeg, fCat, fRep, oAdd, oSub, oMul, oDiv, oMod, oPow, oShl, oShr, oAnd, oOr, oXor, oLt, oLe, oGt, oGe, oMin, oLen, oSum, enc, n0, str_tab]) nil_nx) (seq_nx (if_f (by simp [bodyD, gRet, gSeq, gIf, gSet, gApp, BF.gNil, gFrz, frz, op2, dt, fVar, fC, evs, fTup, fLst, fCall, fB, fIx, ixD, fSl, slD, pNo, pSome, fz, own?, bB, bAnd, bOr, bNot, vAnd, vOr, vNot, fIsi, fList, fNeg, fCat, fRep, oAdd, oSub, oMul, oDiv, oMod, oPow, oShl, oShr, oAnd, oOr, oXor, oLt, oLe, oGt, oGe, oMin, oLen, oSum, enc, n0, n1, oLen, oEq_int]; omega) nil_nx) (seq_nx (if_f (by simp [bodyD, gRet, gSeq, gIf, gSet, gApp, BF.gNil, gFrz, frz, op2, dt, fVar, fC, evs, fTup, fLst, fCall, fB, fIx, ixD, fSl, slD, pNo, pSome, fz, own?, bB, bAnd, bOr, bNot, vAnd, vOr, vNot, fIsi, fList, fNeg, fCat, fRep, oAdd, oSub, oMul, oDiv, oMod, oPow, oShl, oShr, oAnd, oOr, oXor, oLt, oLe, oGt, oGe, oMin, oLen, oSum, enc, n0, str_tab]) nil_nx) (seq_rt (if_t (by simp [bodyD, gRet, gSeq, gIf, gSet, gApp, BF.gNil, gFrz, frz, op2, dt, fVar, fC, evs, fTup, fLst, fCall, fB, fIx, ixD, fSl, slD, pNo, pSome, fz, own?, bB, bAnd, bOr, bNot, vAnd, vOr, vNot, fIsi, fList, fNeg, fCat, fRep, oAdd, oSub, oMul, oDiv, oMod, oPow, oShl, oShr, oAnd, oOr, oXor, oLt, oLe, oGt, oGe, oMin, oLen, oSum, enc, n0, in_lst_tab, line24]) (by simp [bodyD, gRet, gSeq, gIf, gSet, gApp, BF.gNil, gFrz, frz, op2, dt, fVar, fC, evs, fTup, fLst, fCall, fB, fIx, ixD, fSl, slD, pNo, pSome, fz, own?, bB, bAnd, bOr, bNot, vAnd, vOr, vNot, fIsi, fList, fNeg, fCat, fRep, oAdd, oSub, oMul, oDiv, oMod, oPow, oShl, oShr, oAnd, oOr, oXor, oLt, oLe, oGt, oGe, oMin, oLen, oSum, enc, n0, n2, g2])))))
  | down a m =>
    have g1 : (a : Int) < many := by exact_mod_cast g.1
    have g2 : m ≤ w := g.2
    refine seq_nx (if_f (by simp [bodyD, gRet, gSeq, gIf, gSet, gApp, BF.gNil, gFrz, frz, op2, dt, fVar, fC, evs, fTup, fLst, fCall, fB, fIx, ixD, fSl, slD, pNo, pSome, fz, own?, bB, bAnd, bOr, bNot, vAnd, vOr, vNot, fIsi, fList, fNeg, fCat, fRep, oAdd, oSub, oMul, oDiv, oMod, oPow, oShl, oShr, oAnd, oOr, oXor, oLt, oLe, oGt, oGe, oMin, oLen, oSum, enc, n0, str_tab]) nil_nx) (seq_nx (if_f (by simp [bodyD, gRet, gSeq, gIf, gSet, gApp, BF.gNil, gFrz, frz, op2, dt, fVar, fC, evs, fTup, fLst, fCall, fB, fIx, ixD, fSl, slD, pNo, pSome, fz, own?, bB, bAnd, bOr, bNot, vAnd, vOr, vNot, fIsi, fList, fNeg, fCat, fRep, oAdd, oSub, oMul, oDiv, oMod, oPow, oShl, oShr, oAnd, oOr, oXor, oLt, oLe, oGt, oGe, oMin, oLen, oSum, enc, n0, n1, oLen, oEq_int]; omega) nil_nx) (seq_nx (if_f (by simp [bodyD, gRet, gSeq, gIf, gSet, gApp, BF.gNil, gFrz, frz, op2, dt, fVar, fC, evs, fTup, fLst, fCall, fB, fIx, ixD, fSl, slD, pNo, pSome, fz, own?, bB, bAnd, bOr, bNot, vAnd, vOr, vNot, fIsi, fList, fNeg, fCat, fRep, oAdd, oSub, oMul, oDiv, oMod, oPow, oShl, oShr, oAnd, oOr, oXor, oLt, oLe, oGt, oGe, oMin, oLen, oSum, enc, n0, str_tab]) nil_nx) (seq_rt (if_t (by simp [bodyD, gRet, gSeq, gIf, gSet, gApp, BF.gNil, gFrz, frz, op2, dt, fVar, fC, evs, fTup, fLst, fCall, fB, fIx, ixD, fSl, slD, pNo, pSome, fz, own?, bB, bAnd, bOr, bNot, vAnd, vOr, vNot, fIsi, fList, fNeg, fCat, fRep, oAdd, oSub, oMul, oDiv, oMod, oPow, oShl, oShr, oAnd, oOr, oXor, oLt, oLe, oGt, oGe, oMin, oLen, oSum, enc, n0, in_lst_tab, line24]) (by simp [bodyD, gRet, gSeq, gIf, gSet, gApp, BF.gNil, gFrz, frz, op2, dt, fVar, fC, evs, fTup, fLst, fCall, fB, fIx, ixD, fSl, slD, pNo, pSome, fz, own?, bB, bAnd, bOr, bNot, vAnd, vOr, vNot, fIsi, fList, fNeg, fCat, fRep, oAdd, oSub, oMul, oDiv, oMod, oPow, oShl, oShr, oAnd, oOr, oXor, oLt, oLe, oGt, oGe, oMin, oLen, oSum, enc, n0, n2, g2])))))
theorem fine_ok (w most : Nat) (hw : w ≤ 64) (ds : List Deed) (hg : GoodRow w ds) (hl : ds.length ≤ most) (hm : most ≤ 5000) : F__law_fine [.lst (ds.map enc), .int w, .int most] = some (.sh (.bl true)) := by
  have hlen : ∀ {δ : List Sl}, δ[0]? = some (.sh (.lst (ds.map enc))) → fB oLen [fVar 0] δ = some (.sh (.int ds.length)) := fun {δ} h => fB_of (rs := [.sh (.lst (ds.map enc))]) (evs_cons (r := .sh (.lst (ds.map enc))) (by unfold fVar; rw [h]) evs_nil) (by simp [oLen])
  obtain ⟨t, e⟩ := loop_all (i := 3) (b := B__law_fine_1) (δ := [.sh (.lst (ds.map enc)), .sh (.int w), .sh (.int most), .un]) (rng 0 ds.length) .un (fun x hx => by
    unfold rng at hx
    obtain ⟨k, hk, rfl⟩ := List.mem_map.mp hx
    have hk := List.mem_range.mp hk
    rw [Int.zero_add]
    have hd : ds[k]? = some ds[k] := List.getElem?_eq_getElem hk
    refine if_f (not_t (bB_of (dt_of (call_of (rs := [.sh (enc ds[k]), .sh (.int w), .sh (.int (k + 1 : Nat))]) (evs_cons (r := .sh (enc ds[k])) (ix_of (a := .lst (ds.map enc)) (i := (k : Int)) (dt_of rfl) (dt_of rfl) (atI_nat (by rw [List.getElem?_map, hd]; rfl))) (evs_cons (r := .sh (.int w)) rfl (evs_cons (r := .sh (.int (k + 1 : Nat))) (op2_of (dt_of rfl) (dt_of rfl) (by simp [oAdd])) evs_nil))) (fine_row_ok w (k + 1) hw ds[k] (hg k _ hd)) rfl)))) nil_nx)
  exact body_rt (r := (Rs.sh (.bl true)).out) (δ := [.sh (.lst (ds.map enc)), .sh (.int w), .sh (.int most), .un]) rfl rfl (seq_nx (if_f (or_f (not_t (bB_of (b := true) (dt_of (isi_of (d := .lst (ds.map enc)) (dt_of rfl))))) (bB_of (b := false) (dt_of (op2_of (a := .int ds.length) (b := .int most) (d := .bl false) (dt_of (hlen rfl)) (dt_of rfl) (by simp [oGt]; omega))))) nil_nx) (seq_nx (for_of (iR_of (dt_of (hlen rfl)) (okR_nat (by omega))) e) (ret_of rfl)))
section
variable {δ : List Sl} {fa fb : EF} {a b : Nat}
theorem beqN (a b : Nat) : ((a : Int) == (b : Int)) = decide (a = b) := by
  by_cases h : a = b
  · subst h; simp
  · rw [decide_eq_false h]; simp; omega
theorem addN (h1 : dt fa δ = some (.int a)) (h2 : dt fb δ = some (.int b)) : op2 oAdd fa fb δ = some (.sh (.int (a + b : Nat))) := op2_of h1 h2 (by show oI _ _ _ _ = _; rw [oI_int, if_pos rfl]; push_cast; rfl)
theorem subN (h1 : dt fa δ = some (.int a)) (h2 : dt fb δ = some (.int b)) (h : b ≤ a) : op2 oSub fa fb δ = some (.sh (.int (a - b : Nat))) := op2_of h1 h2 (by show oI _ _ _ _ = _; rw [oI_int, if_pos rfl, Int.ofNat_sub h])
theorem divN (h1 : dt fa δ = some (.int a)) (h2 : dt fb δ = some (.int b)) (h : 0 < b) (h' : b < 2 ^ 64) : op2 oDiv fa fb δ = some (.sh (.int (a / b : Nat))) := op2_of h1 h2 (by show oI _ _ _ _ = _; rw [oI_int, if_pos (divOk_small (by omega) (by omega))]; push_cast; rfl)
theorem modN (h1 : dt fa δ = some (.int a)) (h2 : dt fb δ = some (.int b)) (h : 0 < b) : op2 oMod fa fb δ = some (.sh (.int (a % b : Nat))) := op2_of h1 h2 (by show oI _ _ _ _ = _; rw [oI_int, if_pos (posOk_of (by omega))]; push_cast; rfl)
theorem shlN (h1 : dt fa δ = some (.int a)) (h2 : dt fb δ = some (.int b)) (h : a < 2 ^ 64) (h' : b ≤ 1000000) : op2 oShl fa fb δ = some (.sh (.int (a * 2 ^ b : Nat))) := op2_of h1 h2 (by show oI _ _ _ _ = _; rw [oI_int, if_pos (powOk_of (by omega) (by omega) (by omega)), Int.toNat_natCast]; push_cast; rfl)
theorem shl1 (h2 : dt fb δ = some (.int b)) (h' : b ≤ 1000000) : op2 oShl (fC (.int 1)) fb δ = some (.sh (.int (2 ^ b : Nat))) := by
  have := shlN (a := 1) (fa := fC (.int 1)) (dt_of rfl) h2 (by decide) h'
  rw [Nat.one_mul] at this
  exact this
theorem ltN {v : Bool} (h1 : dt fa δ = some (.int a)) (h2 : dt fb δ = some (.int b)) (e : decide (a < b) = v) : bB (op2 oLt fa fb) δ = some v := bB_of (dt_of (op2_of (d := .bl v) h1 h2 (by show oI _ _ _ _ = _; rw [oI_int, if_pos rfl, ← e]; congr 2; simp)))
theorem gtN {v : Bool} (h1 : dt fa δ = some (.int a)) (h2 : dt fb δ = some (.int b)) (e : decide (b < a) = v) : bB (op2 oGt fa fb) δ = some v := bB_of (dt_of (op2_of (d := .bl v) h1 h2 (by show oI _ _ _ _ = _; rw [oI_int, if_pos rfl, ← e]; congr 2; simp)))
theorem eqN' {v : Bool} (h1 : dt fa δ = some (.int a)) (h2 : dt fb δ = some (.int b)) (e : decide (a = b) = v) : op2 (oEq false) fa fb δ = some (.sh (.bl v)) := op2_of h1 h2 (by rw [oEq_int, if_neg Bool.false_ne_true, ← e, beqN])
theorem eqN {v : Bool} (h1 : dt fa δ = some (.int a)) (h2 : dt fb δ = some (.int b)) (e : decide (a = b) = v) : bB (op2 (oEq false) fa fb) δ = some v := bB_of (dt_of (eqN' h1 h2 e))
end
theorem inD_nats (a : Nat) : ∀ T : List Nat, inD (.int a) (nats T) = decide (a ∈ T)
  | [] => by simp [inD, inV, nats]
  | t :: T => by
    have e : inD (.int a) (nats (t :: T)) = (((t : Int) == (a : Int)) || inD (.int a) (nats T)) := rfl
    rw [e, inD_nats a T]
    by_cases h : a = t
    · subst h; simp
    · have : ((t : Int) == (a : Int)) = false := by simp; omega
      rw [this, Bool.false_or]
      simp [h]
theorem oIn_nats (neg : Bool) (a : Nat) (T : List Nat) : oIn neg (.int a) (.lst (nats T)) = some (.bl (if neg then !decide (a ∈ T) else decide (a ∈ T))) := by
  have hs : (nats T).all Dm.scal = true := by unfold nats; rw [List.all_eq_true]; intro x hx; obtain ⟨v, _, rfl⟩ := List.mem_map.mp hx; rfl
  show (if (Dm.scal (.int a) && (nats T).all Dm.scal) = true then some (Dm.bl (if neg then !inD (.int a) (nats T) else inD (.int a) (nats T))) else none) = _
  rw [hs, inD_nats]
  rfl
theorem ninN {δ : List Sl} {fa fb : EF} {a : Nat} {T : List Nat} {v : Bool} (h1 : dt fa δ = some (.int a)) (h2 : dt fb δ = some (.lst (nats T))) (e : (!decide (a ∈ T)) = v) : bB (op2 (oIn true) fa fb) δ = some v := bB_of (dt_of (op2_of (d := .bl v) h1 h2 (by rw [oIn_nats, if_pos rfl, e])))
theorem bAndV {f g : BF'} {δ : List Sl} {x y : Bool} (h : f δ = some x) (h2 : g δ = some y) : bAnd f g δ = some (x && y) := by unfold bAnd; rw [h, Option.bind_some]; cases x <;> simp [h2]
theorem nats_app (a b : List Nat) : nats (a ++ b) = nats a ++ nats b := by unfold nats; rw [List.map_append]
theorem nats_len (a : List Nat) : (nats a).length = a.length := by unfold nats; rw [List.length_map]
theorem iE_of {f : EF} {δ : List Sl} {r : Rs} {ds : List Dm} (h : f δ = some r) (h2 : r.fz = .sh (.lst ds)) : iE f δ = some (enumFrom 0 ds) := by
  unfold iE
  rw [fz_some h, Option.bind_some, h2, ← enumD_from]
  rfl
theorem and_step (x m : Nat) : x &&& m = (if m % 2 = 1 then x % 2 else 0) + 2 * (x / 2 &&& m / 2) := by
  have e2 : (x &&& m) / 2 = x / 2 &&& m / 2 := Nat.and_div_two
  have q := Nat.and_mod_two_eq_one (a := x) (b := m)
  have d := Nat.div_add_mod (x &&& m) 2
  rw [e2] at d
  by_cases h : m % 2 = 1
  · rw [if_pos h]
    rcases Nat.mod_two_eq_zero_or_one x with a | a <;> rw [a] at q ⊢ <;> omega
  · rw [if_neg h]
    have : (x &&& m) % 2 = 0 := by
      rcases Nat.mod_two_eq_zero_or_one (x &&& m) with a | a
      · exact a
      · have := q.mp a; omega
    omega
theorem made_by_ok (w : Nat) (vs : List Nat) (d : Deed) (hw2 : w ≤ 64) (hv : ∀ v ∈ vs, v < 2 ^ w) (g : Good w vs.length d) : F_made_by [enc d, .lst (nats vs), .int (2 ^ w - 1)] = some (.sh (.int (step w vs d : Nat))) := by
  have n0 : ∀ (x : Str) (r : List Dm), atI (Dm.str x :: r) 0 = some (.str x) := fun x r => atI_nat (j := 0) rfl
  have n1 : ∀ (x : Dm) (y : Dm) (r : List Dm), atI (x :: y :: r) 1 = some y := fun x y r => atI_nat (j := 1) rfl
  have n2 : ∀ (x y z : Dm) (r : List Dm), atI (x :: y :: z :: r) 2 = some z := fun x y z r => atI_nat (j := 2) rfl
  cases d with
  | fix m => simp [F_made_by, bodyD, gRet, gSeq, gIf, gSet, gApp, BF.gNil, gFrz, frz, op2, dt, fVar, fC, evs, fTup, fLst, fCall, fB, fIx, ixD, fSl, slD, pNo, pSome, fz, own?, bB, bAnd, bOr, bNot, vAnd, vOr, vNot, fIsi, fList, fNeg, fCat, fRep, oAdd, oSub, oMul, oDiv, oMod, oPow, oShl, oShr, oAnd, oOr, oXor, oLt, oLe, oGt, oGe, oMin, oLen, oSum, enc, n0, n1, n2, str_tab, step]
  | mask a m => simp [F_made_by, bodyD, gRet, gSeq, gIf, gSet, gApp, BF.gNil, gFrz, frz, op2, dt, fVar, fC, evs, fTup, fLst, fCall, fB, fIx, ixD, fSl, slD, pNo, pSome, fz, own?, bB, bAnd, bOr, bNot, vAnd, vOr, vNot, fIsi, fList, fNeg, fCat, fRep, oAdd, oSub, oMul, oDiv, oMod, oPow, oShl, oShr, oAnd, oOr, oXor, oLt, oLe, oGt, oGe, oMin, oLen, oSum, enc, n0, n1, n2, str_tab, step, at_nats g.1, band_nat]
  | turn a m => simp [F_made_by, bodyD, gRet, gSeq, gIf, gSet, gApp, BF.gNil, gFrz, frz, op2, dt, fVar, fC, evs, fTup, fLst, fCall, fB, fIx, ixD, fSl, slD, pNo, pSome, fz, own?, bB, bAnd, bOr, bNot, vAnd, vOr, vNot, fIsi, fList, fNeg, fCat, fRep, oAdd, oSub, oMul, oDiv, oMod, oPow, oShl, oShr, oAnd, oOr, oXor, oLt, oLe, oGt, oGe, oMin, oLen, oSum, enc, n0, n1, n2, str_tab, step, at_nats g.1, bxor_nat]
  | both a b => simp [F_made_by, bodyD, gRet, gSeq, gIf, gSet, gApp, BF.gNil, gFrz, frz, op2, dt, fVar, fC, evs, fTup, fLst, fCall, fB, fIx, ixD, fSl, slD, pNo, pSome, fz, own?, bB, bAnd, bOr, bNot, vAnd, vOr, vNot, fIsi, fList, fNeg, fCat, fRep, oAdd, oSub, oMul, oDiv, oMod, oPow, oShl, oShr, oAnd, oOr, oXor, oLt, oLe, oGt, oGe, oMin, oLen, oSum, enc, n0, n1, n2, str_tab, step, at_nats g.1, at_nats g.2, bxor_nat]
  | up a n =>
    have p : powOk ((vs[a]?.getD 0 : Nat) : Int) (n : Int) = true := by
      have h1 := getD_lt hv a
      rw [List.getD_eq_getElem?_getD] at h1
      have h2 : 2 ^ w ≤ 2 ^ 64 := Nat.pow_le_pow_right (by decide) hw2
      have h3 : n ≤ w := g.2
      exact powOk_of (by omega) (by omega) (by rw [Int.natAbs_natCast]; omega)
    simp [F_made_by, bodyD, gRet, gSeq, gIf, gSet, gApp, BF.gNil, gFrz, frz, op2, dt, fVar, fC, evs, fTup, fLst, fCall, fB, fIx, ixD, fSl, slD, pNo, pSome, fz, own?, bB, bAnd, bOr, bNot, vAnd, vOr, vNot, fIsi, fList, fNeg, fCat, fRep, oAdd, oSub, oMul, oDiv, oMod, oPow, oShl, oShr, oAnd, oOr, oXor, oLt, oLe, oGt, oGe, oMin, oLen, oSum, enc, n0, n1, n2, str_tab, step, at_nats g.1, p, band_mask]
  | down a n => simp [F_made_by, bodyD, gRet, gSeq, gIf, gSet, gApp, BF.gNil, gFrz, frz, op2, dt, fVar, fC, evs, fTup, fLst, fCall, fB, fIx, ixD, fSl, slD, pNo, pSome, fz, own?, bB, bAnd, bOr, bNot, vAnd, vOr, vNot, fIsi, fList, fNeg, fCat, fRep, oAdd, oSub, oMul, oDiv, oMod, oPow, oShl, oShr, oAnd, oOr, oXor, oLt, oLe, oGt, oGe, oMin, oLen, oSum, enc, n0, n1, n2, str_tab, step, at_nats g.1]
theorem vals_loop (w : Nat) (hw2 : w ≤ 64) (L x0 : Dm) : ∀ (ds : List Deed) (vs : List Nat) (s5 : Sl), (∀ v ∈ vs, v < 2 ^ w) → (∀ i d, ds[i]? = some d → Good w (vs.length + i) d) → vs.length + ds.length ≤ 1000 →
    ∃ t5, loopD (.nm 5) (gApp 4 (fCall F_made_by [(fVar 5), (fVar 4), (fVar 3)])) (ds.map enc) [.sh (.int w), .sh L, .sh x0, .sh (.int (2 ^ w - 1)), .ow (nats vs), s5] = some (.nx [.sh (.int w), .sh L, .sh x0, .sh (.int (2 ^ w - 1)), .ow (nats (vals w vs ds)), t5])
  | [], vs, s5, _, _, _ => ⟨s5, rfl⟩
  | d :: ds, vs, s5, hv, hg, hl => by
    rw [List.length_cons] at hl
    have g0 : Good w vs.length d := hg 0 d rfl
    have hs := step_lt hv g0
    obtain ⟨t5, e⟩ := vals_loop w hw2 L x0 ds (vs ++ [step w vs d]) (.sh (enc d)) (fun v h => (List.mem_append.mp h).elim (hv v) fun z => by rw [List.mem_singleton.mp z]; exact hs) (fun i d' h => by
      have := hg (i + 1) d' h
      rw [List.length_append, List.length_singleton]
      rw [show vs.length + (i + 1) = vs.length + 1 + i by omega] at this
      exact this) (by rw [List.length_append, List.length_singleton]; omega)
    refine ⟨t5, ?_⟩
    rw [List.map_cons]
    refine loop_cons (δ1 := [.sh (.int w), .sh L, .sh x0, .sh (.int (2 ^ w - 1)), .ow (nats vs), .sh (enc d)]) rfl (app_of (ds := nats vs) (r := .sh (.int (step w vs d : Nat))) rfl (call_of (rs := [.sh (enc d), .al 4 (nats vs), .sh (.int (2 ^ w - 1))]) rfl (made_by_ok w vs d hw2 hv g0) (by simp)) rfl (by unfold nats; rw [List.length_map, line24]; omega)) ?_
    have en : nats (vs ++ [step w vs d]) = nats vs ++ [.int (step w vs d : Nat)] := by unfold nats; rw [List.map_append]; rfl
    rw [en] at e
    exact e
theorem values_ok (w : Nat) (hw2 : w ≤ 64) (ds : List Deed) (x : Nat) (hx : x < 2 ^ w) (hg : GoodRow w ds) (hl : ds.length ≤ 400) : F_values [.int w, .lst (ds.map enc), .int x] = some (.ow (nats (vals w [x] ds))) := by
  obtain ⟨t5, e⟩ := vals_loop w hw2 (.lst (ds.map enc)) (.int x) ds [x] .un (fun v h => by rw [List.mem_singleton.mp h]; exact hx) (fun i d h => by have := hg i d h; rw [List.length_singleton, Nat.add_comm 1 i]; exact this) (by simp; omega)
  have p : powOk 1 (w : Int) = true := powOk_one (by omega) (by omega)
  exact body_rt (r := (Rs.al 4 (nats (vals w [x] ds))).out) rfl rfl (seq_nx (set_sh (d := .int (2 ^ w - 1)) (by simp [bodyD, gRet, gSeq, gIf, gSet, gApp, BF.gNil, gFrz, frz, op2, dt, fVar, fC, evs, fTup, fLst, fCall, fB, fIx, ixD, fSl, slD, pNo, pSome, fz, own?, bB, bAnd, bOr, bNot, vAnd, vOr, vNot, fIsi, fList, fNeg, fCat, fRep, oAdd, oSub, oMul, oDiv, oMod, oPow, oShl, oShr, oAnd, oOr, oXor, oLt, oLe, oGt, oGe, oMin, oLen, oSum, p])) (seq_nx (set_ow (d := nats [x]) (by simp [bodyD, gRet, gSeq, gIf, gSet, gApp, BF.gNil, gFrz, frz, op2, dt, fVar, fC, evs, fTup, fLst, fCall, fB, fIx, ixD, fSl, slD, pNo, pSome, fz, own?, bB, bAnd, bOr, bNot, vAnd, vOr, vNot, fIsi, fList, fNeg, fCat, fRep, oAdd, oSub, oMul, oDiv, oMod, oPow, oShl, oShr, oAnd, oOr, oXor, oLt, oLe, oGt, oGe, oMin, oLen, oSum, nats, line24])) (seq_nx (for_of rfl e) (ret_of rfl))))
def tellT : Nat → List Nat → Nat → Nat
  | s, [], _ => s
  | s, c :: cs, x => tellT (if x % 2 = 1 then s ^^^ c else s) cs (x / 2)
def Aff (w : Nat) (f : Nat → Nat) : Prop := ∀ x y, x < 2 ^ w → y < 2 ^ w → f (x ^^^ y) = f x ^^^ f y ^^^ f 0
theorem xor_low (b q j : Nat) : (b % 2) * 2 ^ j ^^^ q * 2 ^ (j + 1) = (b % 2 + 2 * q) * 2 ^ j := by
  have e : q * 2 ^ (j + 1) = (2 * q) * 2 ^ j := by rw [Nat.pow_succ]; rw [Nat.mul_comm (2 ^ j) 2, ← Nat.mul_assoc, Nat.mul_comm q 2]
  rw [e, ← Nat.shiftLeft_eq, ← Nat.shiftLeft_eq, ← Nat.shiftLeft_eq, ← Nat.shiftLeft_xor_distrib]
  congr 1
  have h := xor_add_and (b % 2) (2 * q)
  have h2 : b % 2 &&& 2 * q = 0 := by
    have := and_step (b % 2) (2 * q)
    rw [if_neg (by omega), show b % 2 / 2 = 0 by omega, Nat.zero_and] at this
    omega
  omega
theorem xor_cancel (s c d e : Nat) : s ^^^ (c ^^^ e) ^^^ (d ^^^ e) = s ^^^ (c ^^^ d ^^^ e ^^^ e) := by
  apply Nat.eq_of_testBit_eq
  intro i
  simp only [Nat.testBit_xor]
  cases s.testBit i <;> cases c.testBit i <;> cases d.testBit i <;> cases e.testBit i <;> rfl
theorem tell_aff {w : Nat} {f : Nat → Nat} (hf : Aff w f) : ∀ (n j s x : Nat), j + n = w → x < 2 ^ n → tellT s ((List.range' j n).map fun k => f (2 ^ k) ^^^ f 0) x = s ^^^ (f (x * 2 ^ j) ^^^ f 0)
  | 0, j, s, x, hn, hx => by
    have : x = 0 := by simp at hx; exact hx
    subst this
    simp [tellT]
  | n + 1, j, s, x, hn, hx => by
    have hx2 : x / 2 < 2 ^ n := by rw [Nat.pow_succ] at hx; omega
    rw [List.range'_succ, List.map_cons, tellT, tell_aff hf n (j + 1) _ (x / 2) (by omega) hx2]
    have hw : ∀ y, y < 2 ^ (n + 1) → y * 2 ^ j < 2 ^ w := fun y hy => by
      rw [← hn, Nat.pow_add, Nat.mul_comm (2 ^ j)]
      exact Nat.mul_lt_mul_of_pos_right hy (Nat.two_pow_pos j)
    have ex : x * 2 ^ j = (x % 2) * 2 ^ j ^^^ (x / 2) * 2 ^ (j + 1) := by
      rw [xor_low]
      congr 1
      omega
    have p2 : 2 ≤ 2 ^ (n + 1) := by
      rw [Nat.pow_succ]
      have := Nat.two_pow_pos n
      omega
    have b1 : (x % 2) * 2 ^ j < 2 ^ w := hw _ (by omega)
    have b2 : (x / 2) * 2 ^ (j + 1) < 2 ^ w := by
      have := hw (2 * (x / 2)) (by rw [Nat.pow_succ]; omega)
      rw [Nat.pow_succ, Nat.mul_comm (2 ^ j) 2, ← Nat.mul_assoc, Nat.mul_comm (x / 2) 2]
      exact this
    rw [ex, hf _ _ b1 b2]
    by_cases h : x % 2 = 1
    · rw [if_pos h, h, Nat.one_mul, xor_cancel]
    · have h0 : x % 2 = 0 := by omega
      rw [if_neg h, h0, Nat.zero_mul]
      congr 1
      apply Nat.eq_of_testBit_eq
      intro i
      simp only [Nat.testBit_xor]
      cases (f 0).testBit i <;> cases (f (x / 2 * 2 ^ (j + 1))).testBit i <;> rfl
theorem tell_of_aff {w : Nat} {f : Nat → Nat} (hf : Aff w f) (x : Nat) (hx : x < 2 ^ w) : tellT (f 0) ((List.range w).map fun k => f (2 ^ k) ^^^ f 0) x = f x := by
  have := tell_aff hf w 0 (f 0) x (by omega) hx
  rw [← List.range_eq_range'] at this
  rw [this, Nat.pow_zero, Nat.mul_one]
  apply Nat.eq_of_testBit_eq
  intro i
  simp only [Nat.testBit_xor]
  cases (f 0).testBit i <;> cases (f x).testBit i <;> rfl
def AffL (w : Nat) (vs : Nat → List Nat) : Prop := (∀ x y, (vs x).length = (vs y).length) ∧ (∀ a, Aff w fun x => (vs x).getD a 0)
theorem shl_mod_xor (a b n w : Nat) : (a ^^^ b) * 2 ^ n % 2 ^ w = (a * 2 ^ n % 2 ^ w) ^^^ (b * 2 ^ n % 2 ^ w) := by
  rw [← Nat.xor_mod_two_pow]
  congr 1
  rw [← Nat.shiftLeft_eq, ← Nat.shiftLeft_eq, ← Nat.shiftLeft_eq, Nat.shiftLeft_xor_distrib]
theorem shr_xor (a b n : Nat) : (a ^^^ b) / 2 ^ n = (a / 2 ^ n) ^^^ (b / 2 ^ n) := Nat.xor_div_two_pow
theorem and_xor (a b m : Nat) : (a ^^^ b) &&& m = (a &&& m) ^^^ (b &&& m) := Nat.and_xor_distrib_right
theorem step_aff {w : Nat} {vs : Nat → List Nat} (h : AffL w vs) (d : Deed) : Aff w fun x => step w (vs x) d := by
  intro x y hx hy
  have g : ∀ a, (vs (x ^^^ y)).getD a 0 = (vs x).getD a 0 ^^^ (vs y).getD a 0 ^^^ (vs 0).getD a 0 := fun a => h.2 a x y hx hy
  cases d with
  | fix m =>
    show m = m ^^^ m ^^^ m
    simp
  | mask a m =>
    show (vs (x ^^^ y)).getD a 0 &&& m = _
    rw [g a, and_xor, and_xor]; rfl
  | turn a m =>
    show (vs (x ^^^ y)).getD a 0 ^^^ m = _
    rw [g a]
    show _ = ((vs x).getD a 0 ^^^ m) ^^^ ((vs y).getD a 0 ^^^ m) ^^^ ((vs 0).getD a 0 ^^^ m)
    apply Nat.eq_of_testBit_eq
    intro i
    simp only [Nat.testBit_xor]
    cases ((vs x).getD a 0).testBit i <;> cases ((vs y).getD a 0).testBit i <;> cases ((vs 0).getD a 0).testBit i <;> cases m.testBit i <;> rfl
  | both a b =>
    show (vs (x ^^^ y)).getD a 0 ^^^ (vs (x ^^^ y)).getD b 0 = _
    rw [g a, g b]
    show _ = ((vs x).getD a 0 ^^^ (vs x).getD b 0) ^^^ ((vs y).getD a 0 ^^^ (vs y).getD b 0) ^^^ ((vs 0).getD a 0 ^^^ (vs 0).getD b 0)
    apply Nat.eq_of_testBit_eq
    intro i
    simp only [Nat.testBit_xor]
    cases ((vs x).getD a 0).testBit i <;> cases ((vs y).getD a 0).testBit i <;> cases ((vs 0).getD a 0).testBit i <;> cases ((vs x).getD b 0).testBit i <;> cases ((vs y).getD b 0).testBit i <;> cases ((vs 0).getD b 0).testBit i <;> rfl
  | up a n =>
    show (vs (x ^^^ y)).getD a 0 * 2 ^ n % 2 ^ w = _
    rw [g a, shl_mod_xor, shl_mod_xor]; rfl
  | down a n =>
    show (vs (x ^^^ y)).getD a 0 / 2 ^ n = _
    rw [g a, shr_xor, shr_xor]; rfl
theorem affL_snoc {w : Nat} {vs : Nat → List Nat} {f : Nat → Nat} (h : AffL w vs) (hf : Aff w f) : AffL w fun x => vs x ++ [f x] := by
  refine ⟨fun x y => by rw [List.length_append, List.length_append, h.1 x y]; rfl, fun a x y hx hy => ?_⟩
  have key : ∀ z, (vs z ++ [f z]).getD a 0 = if a < (vs 0).length then (vs z).getD a 0 else if a = (vs 0).length then f z else 0 := fun z => by
    have hl := h.1 z 0
    rw [List.getD_eq_getElem?_getD, List.getD_eq_getElem?_getD]
    by_cases h1 : a < (vs 0).length
    · rw [if_pos h1, List.getElem?_append_left (by omega)]
    · rw [if_neg h1, List.getElem?_append_right (by omega)]
      by_cases h2 : a = (vs 0).length
      · rw [if_pos h2, show a - (vs z).length = 0 by omega]; rfl
      · rw [if_neg h2, List.getElem?_eq_none (by simp; omega)]; rfl
  simp only [key]
  by_cases h1 : a < (vs 0).length
  · simp only [if_pos h1]; exact h.2 a x y hx hy
  · simp only [if_neg h1]
    by_cases h2 : a = (vs 0).length
    · simp only [if_pos h2]; exact hf x y hx hy
    · simp only [if_neg h2]; rfl
theorem vals_aff {w : Nat} : ∀ (ds : List Deed) (vs : Nat → List Nat), AffL w vs → AffL w fun x => vals w (vs x) ds
  | [], vs, h => h
  | d :: ds, vs, h => vals_aff ds (fun x => vs x ++ [step w (vs x) d]) (affL_snoc h (step_aff h d))
theorem last_getD (l : List Nat) (h : l ≠ []) : l.getLast h = l.getD (l.length - 1) 0 := by
  rw [List.getLast_eq_getElem, List.getD_eq_getElem?_getD, List.getElem?_eq_getElem (by have := List.length_pos_iff.mpr h; omega)]
  rfl
end LW
set_option Elab.async false
set_option linter.all false
set_option maxRecDepth 100000
set_option maxHeartbeats 4000000
namespace LW
open PySem L2 BF
set_option linter.unusedSimpArgs false
def refs : Deed → List Nat
  | .fix _ => []
  | .mask a _ => [a]
  | .turn a _ => [a]
  | .both a b => [a, b]
  | .up a _ => [a]
  | .down a _ => [a]
def renD (f : Nat → Nat) : Deed → Deed
  | .fix m => .fix m
  | .mask a m => .mask (f a) m
  | .turn a m => .turn (f a) m
  | .both a b => .both (f a) (f b)
  | .up a n => .up (f a) n
  | .down a n => .down (f a) n
def stepF (w : Nat) (v : Nat → Nat) : Deed → Nat
  | .fix m => m
  | .mask a m => v a &&& m
  | .turn a m => v a ^^^ m
  | .both a b => v a ^^^ v b
  | .up a n => v a * 2 ^ n % 2 ^ w
  | .down a n => v a / 2 ^ n
theorem step_F (w : Nat) (vs : List Nat) (d : Deed) : step w vs d = stepF w (fun a => vs.getD a 0) d := by cases d <;> rfl
theorem stepF_ren {w : Nat} {v u : Nat → Nat} {f : Nat → Nat} {d : Deed} (h : ∀ a ∈ refs d, u (f a) = v a) : stepF w u (renD f d) = stepF w v d := by
  cases d with
  | fix m => rfl
  | both a b => simp only [renD, stepF]; rw [h a (by simp [refs]), h b (by simp [refs])]
  | mask a m => simp only [renD, stepF]; rw [h a (by simp [refs])]
  | turn a m => simp only [renD, stepF]; rw [h a (by simp [refs])]
  | up a m => simp only [renD, stepF]; rw [h a (by simp [refs])]
  | down a m => simp only [renD, stepF]; rw [h a (by simp [refs])]
theorem renD_id (d : Deed) : renD id d = d := by cases d <;> rfl
theorem stepF_congr {w : Nat} {v u : Nat → Nat} {d : Deed} (h : ∀ a ∈ refs d, u a = v a) : stepF w u d = stepF w v d := by
  have := stepF_ren (w := w) (v := v) (u := u) (f := id) (d := d) h
  rwa [renD_id] at this
theorem refs_ren (f : Nat → Nat) (d : Deed) : refs (renD f d) = (refs d).map f := by cases d <;> rfl
theorem refs_lt {w many : Nat} {d : Deed} (g : Good w many d) : ∀ a ∈ refs d, a < many := by
  intro a ha
  cases d <;> simp only [refs, List.mem_cons, List.not_mem_nil, or_false] at ha <;> simp only [Good] at g
  · subst ha; exact g.1
  · subst ha; exact g.1
  · rcases ha with rfl | rfl
    · exact g.1
    · exact g.2
  · subst ha; exact g.1
  · subst ha; exact g.1
theorem good_ren {w many more : Nat} {f : Nat → Nat} {d : Deed} (g : Good w many d) (h : ∀ a ∈ refs d, f a < more) : Good w more (renD f d) := by
  cases d with
  | fix m => exact g
  | both a b => exact ⟨h a (by simp [refs]), h b (by simp [refs])⟩
  | mask a m => exact ⟨h a (by simp [refs]), g.2⟩
  | turn a m => exact ⟨h a (by simp [refs]), g.2⟩
  | up a m => exact ⟨h a (by simp [refs]), g.2⟩
  | down a m => exact ⟨h a (by simp [refs]), g.2⟩
theorem vals_pre (w : Nat) : ∀ (ds : List Deed) (vs : List Nat), ∃ t, vals w vs ds = vs ++ t
  | [], vs => ⟨[], by rw [List.append_nil]; rfl⟩
  | d :: ds, vs => by
    obtain ⟨t, e⟩ := vals_pre w ds (vs ++ [step w vs d])
    exact ⟨step w vs d :: t, by rw [vals, e, List.append_assoc]; rfl⟩
def val (w : Nat) (ds : List Deed) (x i : Nat) : Nat := (vals w [x] ds).getD i 0
theorem val_succ {w : Nat} {ds : List Deed} (hg : GoodRow w ds) (x : Nat) {i : Nat} {d : Deed} (h : ds[i]? = some d) : val w ds x (i + 1) = stepF w (val w ds x) d := by
  have hi : i < ds.length := (List.getElem?_eq_some_iff.mp h).1
  have e0 : ds = ds.take i ++ d :: ds.drop (i + 1) := by
    have := List.getElem?_eq_some_iff.mp h
    obtain ⟨_, e⟩ := this
    rw [← e, ← List.drop_eq_getElem_cons hi, List.take_append_drop]
  have e1 : vals w [x] ds = vals w (vals w [x] (ds.take i) ++ [step w (vals w [x] (ds.take i)) d]) (ds.drop (i + 1)) := by
    conv => lhs; rw [e0]
    rw [vals_app]; rfl
  obtain ⟨t, e2⟩ := vals_pre w (ds.drop (i + 1)) (vals w [x] (ds.take i) ++ [step w (vals w [x] (ds.take i)) d])
  rw [e2] at e1
  have hl : (vals w [x] (ds.take i)).length = i + 1 := by rw [vals_len, List.length_take, List.length_singleton]; omega
  have hlow : ∀ a, a < i + 1 → val w ds x a = (vals w [x] (ds.take i)).getD a 0 := fun a ha => by
    unfold val
    rw [e1, List.append_assoc, List.getD_eq_getElem?_getD, List.getD_eq_getElem?_getD, List.getElem?_append_left (by omega)]
  have hv : val w ds x (i + 1) = step w (vals w [x] (ds.take i)) d := by
    unfold val
    rw [e1, List.getD_eq_getElem?_getD, List.getElem?_append_left (by rw [List.length_append, hl]; simp), List.getElem?_append_right (by omega), hl, Nat.sub_self]
    rfl
  rw [hv, step_F]
  refine stepF_congr fun a ha => ?_
  rw [hlow a (refs_lt (hg i d h) a ha)]
def wds (w : Nat) : List Nat := 0 :: (List.range w).map fun k => 2 ^ k
def mk (w : Nat) (ds : List Deed) (i : Nat) : List Nat := (wds w).map fun x => val w ds x i
theorem val_aff (w : Nat) (ds : List Deed) (i : Nat) : Aff w fun x => val w ds x i := by
  have h0 : AffL w fun x => [x] := by
    refine ⟨fun _ _ => rfl, fun a x y hx hy => ?_⟩
    cases a with
    | zero => show x ^^^ y = x ^^^ y ^^^ 0; rw [Nat.xor_zero]
    | succ a => show (0 : Nat) = 0 ^^^ 0 ^^^ 0; rfl
  exact (vals_aff ds _ h0).2 i
theorem val_tell (w : Nat) (ds : List Deed) (i x : Nat) (hx : x < 2 ^ w) : val w ds x i = tellT (val w ds 0 i) ((List.range w).map fun k => val w ds (2 ^ k) i ^^^ val w ds 0 i) x := (tell_of_aff (val_aff w ds i) x hx).symm
theorem mk_eq {w : Nat} {ds : List Deed} {i j : Nat} (h : mk w ds i = mk w ds j) (x : Nat) (hx : x < 2 ^ w) : val w ds x i = val w ds x j := by
  unfold mk wds at h
  rw [List.map_cons, List.map_cons] at h
  injection h with h1 h2
  rw [val_tell w ds i x hx, val_tell w ds j x hx, h1]
  congr 1
  rw [List.map_map, List.map_map] at h2
  refine List.map_congr_left fun k hk => ?_
  have e := List.map_inj_left.mp h2 k hk
  have e' : val w ds (2 ^ k) i = val w ds (2 ^ k) j := e
  rw [e']
theorem tell_zeros : ∀ (cs : List Nat) (s x : Nat), (∀ c ∈ cs, c = 0) → tellT s cs x = s
  | [], s, x, _ => rfl
  | c :: cs, s, x, h => by
    rw [tellT, h c List.mem_cons_self, Nat.xor_zero, ite_self]
    exact tell_zeros cs s _ fun d hd => h d (List.mem_cons_of_mem _ hd)
theorem mk_const {w : Nat} {ds : List Deed} {i c : Nat} (h : ∀ y ∈ mk w ds i, y = c) (x : Nat) (hx : x < 2 ^ w) : val w ds x i = c := by
  have h0 : val w ds 0 i = c := h _ (by unfold mk wds; simp)
  rw [val_tell w ds i x hx, h0, tell_zeros]
  intro d hd
  obtain ⟨k, hk, e⟩ := List.mem_map.mp hd
  have : val w ds (2 ^ k) i = c := h _ (List.mem_map.mpr ⟨2 ^ k, by unfold wds; exact List.mem_cons_of_mem _ (List.mem_map.mpr ⟨k, hk, rfl⟩), rfl⟩)
  rw [← e, this, Nat.xor_self]
def mks (w : Nat) (ds : List Deed) : List (List Nat) := (List.range (ds.length + 1)).map (mk w ds)
def fst (w : Nat) (ds : List Deed) (i : Nat) : Nat := (mks w ds).idxOf (mk w ds i)
theorem mks_at {w : Nat} {ds : List Deed} {i : Nat} (h : i ≤ ds.length) : (mks w ds)[i]? = some (mk w ds i) := by
  unfold mks
  rw [List.getElem?_map, List.getElem?_range (by omega)]; rfl
theorem idx_le {l : List (List Nat)} {i : Nat} {a : List Nat} (h : l[i]? = some a) : l.idxOf a ≤ i := by
  induction l generalizing i with
  | nil => simp at h
  | cons b l ih =>
    rw [List.idxOf_cons]
    cases i with
    | zero =>
      simp at h
      subst h
      simp
    | succ i =>
      have := ih (i := i) (by simpa using h)
      cases hb : (b == a) <;> simp [hb] <;> omega
theorem fst_le {w : Nat} {ds : List Deed} {i : Nat} (h : i ≤ ds.length) : fst w ds i ≤ i := idx_le (mks_at h)
theorem fst_mk {w : Nat} {ds : List Deed} {i : Nat} (h : i ≤ ds.length) : mk w ds (fst w ds i) = mk w ds i := by
  have hm : mk w ds i ∈ mks w ds := List.mem_of_getElem? (mks_at h)
  have hl := List.idxOf_lt_length_of_mem hm
  have e : (mks w ds)[fst w ds i]? = some (mk w ds i) := by
    unfold fst
    rw [List.getElem?_eq_getElem hl, List.getElem_idxOf]
  rw [mks_at (Nat.le_trans (fst_le h) h)] at e
  exact Option.some.inj e
theorem fst_val {w : Nat} {ds : List Deed} {i : Nat} (h : i ≤ ds.length) (x : Nat) (hx : x < 2 ^ w) : val w ds x (fst w ds i) = val w ds x i := mk_eq (fst_mk h) x hx
open Classical in
noncomputable def plainP (f : Nat → Nat) (d : Deed) (m : List Nat) : Deed := if ∀ y ∈ m, y = m.getD 0 0 then .fix (m.getD 0 0) else renD f d
noncomputable def plains (w : Nat) (ds : List Deed) : List Deed := (ds.zip ((mks w ds).drop 1)).map fun p => plainP (fst w ds) p.1 p.2
theorem plains_len (w : Nat) (ds : List Deed) : (plains w ds).length = ds.length := by
  unfold plains mks
  rw [List.length_map, List.length_zip, List.length_drop, List.length_map, List.length_range]
  omega
theorem plains_at {w : Nat} {ds : List Deed} {i : Nat} {d' : Deed} (h : (plains w ds)[i]? = some d') : ∃ d, ds[i]? = some d ∧ d' = plainP (fst w ds) d (mk w ds (i + 1)) := by
  have hi : i < ds.length := by rw [← plains_len w ds]; exact (List.getElem?_eq_some_iff.mp h).1
  unfold plains at h
  rw [List.getElem?_map, (List.getElem?_zip_eq_some (z := (ds[i], mk w ds (i + 1)))).mpr ⟨List.getElem?_eq_getElem hi, by rw [List.getElem?_drop, Nat.add_comm]; exact mks_at (by omega)⟩] at h
  exact ⟨ds[i], List.getElem?_eq_getElem hi, (Option.some.inj h).symm⟩
theorem plain_val {w : Nat} {ds : List Deed} (hg : GoodRow w ds) {i : Nat} {d' : Deed} (h : (plains w ds)[i]? = some d') : Good w (i + 1) d' ∧ ∀ x, x < 2 ^ w → stepF w (val w ds x) d' = val w ds x (i + 1) := by
  obtain ⟨d, hd, e⟩ := plains_at h
  have hi : i < ds.length := (List.getElem?_eq_some_iff.mp hd).1
  have gd := hg i d hd
  unfold plainP at e
  by_cases hc : ∀ y ∈ mk w ds (i + 1), y = (mk w ds (i + 1)).getD 0 0
  · rw [if_pos hc] at e
    subst e
    have hv : ∀ x, x < 2 ^ w → val w ds x (i + 1) = (mk w ds (i + 1)).getD 0 0 := fun x hx => mk_const hc x hx
    refine ⟨?_, fun x hx => (hv x hx).symm⟩
    show (mk w ds (i + 1)).getD 0 0 < 2 ^ w
    rw [← hv 0 (Nat.two_pow_pos w)]
    unfold val
    refine getD_lt (fun v hv => vals_lt w ds [0] (fun u hu => by rw [List.mem_singleton.mp hu]; exact Nat.two_pow_pos w) (fun j d h => by have := hg j d h; rw [List.length_singleton, Nat.add_comm 1 j]; exact this) v hv) _
  · rw [if_neg hc] at e
    subst e
    refine ⟨good_ren gd fun a ha => ?_, fun x hx => ?_⟩
    · have := refs_lt gd a ha
      have := fst_le (w := w) (ds := ds) (i := a) (by omega)
      omega
    · rw [val_succ hg x hd]
      refine stepF_ren fun a ha => ?_
      have := refs_lt gd a ha
      exact fst_val (by omega) x hx
def addK (ks : List Nat) (n : Nat) : List Nat := if n ∈ ks then ks else ks ++ [n]
theorem mem_addK {ks : List Nat} {n a : Nat} : a ∈ addK ks n ↔ a ∈ ks ∨ a = n := by
  unfold addK
  split
  · rename_i h
    exact ⟨.inl, fun z => z.elim id fun e => by rw [e]; exact h⟩
  · rw [List.mem_append, List.mem_singleton]
theorem mem_adds {a : Nat} : ∀ {rs ks : List Nat}, a ∈ rs.foldl addK ks ↔ a ∈ ks ∨ a ∈ rs
  | [], ks => by simp
  | r :: rs, ks => by
    rw [List.foldl_cons, mem_adds, mem_addK, List.mem_cons, or_assoc]
def refsAt (ps : List Deed) (k : Nat) : List Nat := match ps[k]? with
  | some d => refs d
  | none => []
def uStep (ps : List Deed) (k : Nat) (ks : List Nat) : List Nat := if k + 1 ∈ ks then (refsAt ps k).foldl addK ks else ks
def uLoop (ps : List Deed) : Nat → List Nat → List Nat
  | 0, ks => ks
  | k + 1, ks => uLoop ps k (uStep ps k ks)
def Ahead (ps : List Deed) : Prop := ∀ k, ∀ a ∈ refsAt ps k, a ≤ k
theorem uStep_mem {ps : List Deed} {k a : Nat} {ks : List Nat} (h : a ∈ uStep ps k ks) : a ∈ ks ∨ a ∈ refsAt ps k := by
  unfold uStep at h
  split at h
  · exact mem_adds.mp h
  · exact .inl h
theorem uStep_sub {ps : List Deed} {k a : Nat} {ks : List Nat} (h : a ∈ ks) : a ∈ uStep ps k ks := by
  unfold uStep
  split
  · exact mem_adds.mpr (.inl h)
  · exact h
theorem uLoop_sub {ps : List Deed} {a : Nat} : ∀ {k : Nat} {ks : List Nat}, a ∈ ks → a ∈ uLoop ps k ks
  | 0, ks, h => h
  | k + 1, ks, h => uLoop_sub (k := k) (uStep_sub h)
theorem uLoop_lt {ps : List Deed} (ah : Ahead ps) {a : Nat} : ∀ {k : Nat} {ks : List Nat}, a ∈ uLoop ps k ks → a ∈ ks ∨ a < k
  | 0, ks, h => .inl h
  | k + 1, ks, h => by
    rcases uLoop_lt ah (k := k) (ks := uStep ps k ks) h with h | h
    · rcases uStep_mem h with h | h
      · exact .inl h
      · exact .inr (Nat.lt_succ_of_le (ah k a h))
    · exact .inr (by omega)
theorem uLoop_closed {ps : List Deed} (ah : Ahead ps) : ∀ {k : Nat} {ks : List Nat} {j a : Nat}, j < k → j + 1 ∈ uLoop ps k ks → a ∈ refsAt ps j → a ∈ uLoop ps k ks
  | 0, ks, j, a, h, _, _ => absurd h (by omega)
  | k + 1, ks, j, a, h, hj, ha => by
    rcases Nat.lt_succ_iff_lt_or_eq.mp h with hlt | rfl
    · exact uLoop_closed ah (k := k) (ks := uStep ps k ks) hlt hj ha
    · have hj' : j + 1 ∈ uLoop ps j (uStep ps j ks) := hj
      rcases uLoop_lt ah hj' with h1 | h1
      · rcases uStep_mem h1 with h2 | h2
        · refine uLoop_sub (k := j) ?_
          unfold uStep
          rw [if_pos h2]
          exact mem_adds.mpr (.inr ha)
        · exact absurd (ah j _ h2) (by omega)
      · omega
theorem uLoop_why {ps : List Deed} (ah : Ahead ps) : ∀ {k : Nat} {ks : List Nat} {a : Nat}, a ∈ uLoop ps k ks → a ∈ ks ∨ ∃ j, j < k ∧ a ≤ j ∧ j + 1 ∈ uLoop ps k ks ∧ a ∈ refsAt ps j
  | 0, ks, a, h => .inl h
  | k + 1, ks, a, h => by
    rcases uLoop_why ah (k := k) (ks := uStep ps k ks) h with h1 | ⟨j, hj, h2, h3, h4⟩
    · unfold uStep at h1
      split at h1
      · rename_i hk
        rcases mem_adds.mp h1 with h1 | h1
        · exact .inl h1
        · exact .inr ⟨k, by omega, ah k a h1, uLoop_sub (k := k) (uStep_sub hk), h1⟩
      · exact .inl h1
    · exact .inr ⟨j, by omega, h2, h3, h4⟩
def used (ps : List Deed) (last : Nat) : List Nat := uLoop ps last [last]
theorem used_le {ps : List Deed} (ah : Ahead ps) {last a : Nat} (h : a ∈ used ps last) : a ≤ last := by
  rcases uLoop_lt ah h with h | h
  · exact Nat.le_of_eq (List.mem_singleton.mp h)
  · omega
theorem used_last (ps : List Deed) (last : Nat) : last ∈ used ps last := uLoop_sub (List.mem_singleton_self _)
def usL (U : List Nat) (j n : Nat) : List Nat := (List.range' j n).filter fun u => decide (u ∈ U)
theorem usL_mem {U : List Nat} {j n a : Nat} : a ∈ usL U j n ↔ (j ≤ a ∧ a < j + n) ∧ a ∈ U := by
  unfold usL
  rw [List.mem_filter, List.mem_range'_1]
  simp
noncomputable def dAt (ps : List Deed) (k : Nat) : Deed := (ps[k]?).getD (.fix 0)
theorem refsAt_d (ps : List Deed) (k : Nat) : refsAt ps k = refs (dAt ps k) := by
  unfold refsAt dAt
  cases ps[k]? <;> rfl
def pos (us : List Nat) (a : Nat) : Nat := (0 :: us).idxOf a
noncomputable def kept (ps : List Deed) (last : Nat) : List Deed := (usL (used ps last) 1 last).map fun u => renD (pos (usL (used ps last) 1 last)) (dAt ps (u - 1))
theorem pos_app {us vs : List Nat} {a : Nat} (h : a ∈ 0 :: us) : pos (us ++ vs) a = pos us a := by
  unfold pos
  rw [← List.cons_append, List.idxOf_append, if_pos h]
theorem getD_pos {us : List Nat} {a : Nat} (v : Nat → Nat) (h : a ∈ 0 :: us) : ((0 :: us).map v).getD (pos us a) 0 = v a := by
  unfold pos
  have hl := List.idxOf_lt_length_of_mem h
  rw [List.getD_eq_getElem?_getD, List.getElem?_map, List.getElem?_eq_getElem hl, List.getElem_idxOf]
  rfl
theorem pos_lt {us : List Nat} {a : Nat} (h : a ∈ 0 :: us) : pos us a < us.length + 1 := by
  have := List.idxOf_lt_length_of_mem h
  rw [List.length_cons] at this
  exact this
theorem refs_kept {ps : List Deed} (ah : Ahead ps) {last : Nat} {us1 us2 : List Nat} {u : Nat} (e : usL (used ps last) 1 last = us1 ++ u :: us2) : ∀ a ∈ refs (dAt ps (u - 1)), a ∈ 0 :: us1 := fun a ha => by
  have hu : u ∈ usL (used ps last) 1 last := by rw [e]; simp
  obtain ⟨⟨h1, h2⟩, h3⟩ := usL_mem.mp hu
  rw [← refsAt_d] at ha
  have hle := ah _ a ha
  have hin : a ∈ used ps last := by
    refine uLoop_closed ah (j := u - 1) (by omega) ?_ ha
    rw [show u - 1 + 1 = u by omega]; exact h3
  by_cases h0 : a = 0
  · rw [h0]; exact List.mem_cons_self
  · refine List.mem_cons_of_mem _ ?_
    have ha2 : a ∈ usL (used ps last) 1 last := usL_mem.mpr ⟨⟨by omega, by omega⟩, hin⟩
    have srt : (usL (used ps last) 1 last).Pairwise (· < ·) := List.Pairwise.filter _ (List.pairwise_lt_range' (s := 1) (n := last))
    rw [e] at ha2 srt
    rcases List.mem_append.mp ha2 with h | h
    · exact h
    · exfalso
      rcases List.mem_cons.mp h with h | h
      · omega
      · have := (List.pairwise_cons.mp (List.pairwise_append.mp srt).2.1).1 a h
        omega
theorem usL_last {U : List Nat} {last : Nat} (hl : last ∈ U) (h1 : 1 ≤ last) : ∃ us, usL U 1 last = us ++ [last] := by
  obtain ⟨n, rfl⟩ : ∃ n, last = n + 1 := ⟨last - 1, by omega⟩
  refine ⟨usL U 1 n, ?_⟩
  unfold usL
  rw [List.range'_concat, List.filter_append]
  congr 1
  rw [show 1 + 1 * n = n + 1 by omega]
  simp [hl]
theorem kept_len {ps : List Deed} {last : Nat} : (kept ps last).length ≤ last := by
  unfold kept usL
  rw [List.length_map]
  exact Nat.le_trans (List.length_filter_le _ _) (by rw [List.length_range']; exact Nat.le_refl _)
theorem kept_good {w : Nat} {ps : List Deed} {last : Nat} (ah : Ahead ps) (hl : last ≤ ps.length) (hg : GoodRow w ps) : GoodRow w (kept ps last) := fun i d h => by
  unfold kept at h
  rw [List.getElem?_map] at h
  obtain ⟨u, hu, rfl⟩ := Option.map_eq_some_iff.mp h
  have hi := (List.getElem?_eq_some_iff.mp hu).1
  have e : usL (used ps last) 1 last = (usL (used ps last) 1 last).take i ++ u :: (usL (used ps last) 1 last).drop (i + 1) := by
    obtain ⟨_, e⟩ := List.getElem?_eq_some_iff.mp hu
    rw [← e, ← List.drop_eq_getElem_cons hi, List.take_append_drop]
  have hr := refs_kept ah e
  obtain ⟨⟨h1, h2⟩, h3⟩ := usL_mem.mp (List.mem_of_getElem? hu)
  have hlt : u - 1 < ps.length := by omega
  have gd : Good w (u - 1 + 1) (dAt ps (u - 1)) := by
    unfold dAt
    rw [List.getElem?_eq_getElem hlt]
    exact hg _ _ (List.getElem?_eq_getElem hlt)
  refine good_ren gd fun a ha => ?_
  have := pos_lt (hr a ha)
  rw [e, pos_app (hr a ha)]
  rw [List.length_take] at this
  omega
noncomputable def fewD (w : Nat) (ds : List Deed) : List Deed := kept (plains w ds) (fst w ds ds.length)
theorem plains_ahead {w : Nat} {ds : List Deed} (hg : GoodRow w ds) : Ahead (plains w ds) := fun k a ha => by
  unfold refsAt at ha
  cases q : (plains w ds)[k]? with
  | none => rw [q] at ha; cases ha
  | some d =>
    rw [q] at ha
    exact Nat.lt_succ_iff.mp (refs_lt (plain_val hg q).1 a ha)
theorem few_good {w : Nat} {ds : List Deed} (hg : GoodRow w ds) : GoodRow w (fewD w ds) := by
  refine kept_good (plains_ahead hg) ?_ fun i d h => (plain_val hg h).1
  rw [plains_len]; exact fst_le (Nat.le_refl _)
theorem few_len (w : Nat) (ds : List Deed) : (fewD w ds).length ≤ ds.length := Nat.le_trans kept_len (fst_le (Nat.le_refl _))
theorem fst_fst {w : Nat} {ds : List Deed} {i : Nat} (h : i ≤ ds.length) : fst w ds (fst w ds i) = fst w ds i := by
  show (mks w ds).idxOf (mk w ds (fst w ds i)) = (mks w ds).idxOf (mk w ds i)
  rw [fst_mk h]
theorem used_first {w : Nat} {ds : List Deed} (hg : GoodRow w ds) {u : Nat} (h : u ∈ used (plains w ds) (fst w ds ds.length)) : fst w ds u = u := by
  rcases uLoop_why (plains_ahead hg) h with h | ⟨j, hj, _, _, hr⟩
  · rw [List.mem_singleton.mp h]; exact fst_fst (Nat.le_refl _)
  · have hle := fst_le (w := w) (ds := ds) (Nat.le_refl ds.length)
    have hlt : j < (plains w ds).length := by rw [plains_len]; omega
    unfold refsAt at hr
    rw [List.getElem?_eq_getElem hlt] at hr
    obtain ⟨d, hd, e⟩ := plains_at (List.getElem?_eq_getElem hlt)
    have hr' : u ∈ refs (plains w ds)[j] := hr
    rw [e] at hr'
    unfold plainP at hr'
    split at hr'
    · cases hr'
    · rw [refs_ren] at hr'
      obtain ⟨a, ha, rfl⟩ := List.mem_map.mp hr'
      have := refs_lt (hg j d hd) a ha
      have hjd := (List.getElem?_eq_some_iff.mp hd).1
      exact fst_fst (by omega)
theorem fst_zero (w : Nat) (ds : List Deed) : fst w ds 0 = 0 := Nat.le_zero.mp (fst_le (Nat.zero_le _))
noncomputable def usF (w : Nat) (ds : List Deed) : List Nat := usL (used (plains w ds) (fst w ds ds.length)) 1 (fst w ds ds.length)
theorem usF_mem {w : Nat} {ds : List Deed} (hg : GoodRow w ds) {u : Nat} (h : u ∈ 0 :: usF w ds) : fst w ds u = u ∧ u ≤ ds.length := by
  rcases List.mem_cons.mp h with rfl | h
  · exact ⟨fst_zero w ds, Nat.zero_le _⟩
  · obtain ⟨⟨_, h2⟩, h3⟩ := usL_mem.mp h
    have hle := fst_le (w := w) (ds := ds) (Nat.le_refl ds.length)
    exact ⟨used_first hg h3, by omega⟩
theorem usF_apart {w : Nat} {ds : List Deed} (hg : GoodRow w ds) {u v : Nat} (hu : u ∈ 0 :: usF w ds) (hv : v ∈ 0 :: usF w ds) (h : ∀ x, x < 2 ^ w → val w ds x u = val w ds x v) (h1 : 1 ≤ w) : u = v := by
  have e : mk w ds u = mk w ds v := by
    unfold mk
    refine List.map_congr_left fun x hx => h x ?_
    unfold wds at hx
    rcases List.mem_cons.mp hx with rfl | hx
    · exact Nat.two_pow_pos w
    · obtain ⟨k, hk, rfl⟩ := List.mem_map.mp hx
      exact Nat.pow_lt_pow_right (by decide) (List.mem_range.mp hk)
  rw [← (usF_mem hg hu).1, ← (usF_mem hg hv).1]
  unfold fst
  rw [e]
theorem usF_sorted (w : Nat) (ds : List Deed) : (0 :: usF w ds).Pairwise (· < ·) := by
  refine List.pairwise_cons.mpr ⟨fun a ha => ?_, List.Pairwise.filter _ (List.pairwise_lt_range' (s := 1) (n := fst w ds ds.length))⟩
  have := (usL_mem.mp ha).1.1
  omega
theorem usF_inj {w : Nat} {ds : List Deed} {i j u : Nat} (hi : (0 :: usF w ds)[i]? = some u) (hj : (0 :: usF w ds)[j]? = some u) : i = j := by
  have nd : (0 :: usF w ds).Nodup := (usF_sorted w ds).imp fun h => Nat.ne_of_lt h
  exact (List.getElem?_inj (List.getElem?_eq_some_iff.mp hi).1 nd).mp (hi.trans hj.symm)
noncomputable def evK (w : Nat) (ds : List Deed) (x : Nat) (d : Deed) : Nat := stepF w (fun a => ((0 :: usF w ds).map (val w ds x)).getD a 0) d
theorem few_at {w : Nat} {ds : List Deed} {i : Nat} {d : Deed} (h : (fewD w ds)[i]? = some d) : ∃ u, (usF w ds)[i]? = some u ∧ d = renD (pos (usF w ds)) (dAt (plains w ds) (u - 1)) := by
  unfold fewD kept at h
  rw [List.getElem?_map] at h
  obtain ⟨u, hu, e⟩ := Option.map_eq_some_iff.mp h
  exact ⟨u, hu, e.symm⟩
theorem few_split {w : Nat} {ds : List Deed} {i u : Nat} (h : (usF w ds)[i]? = some u) : usL (used (plains w ds) (fst w ds ds.length)) 1 (fst w ds ds.length) = (usF w ds).take i ++ u :: (usF w ds).drop (i + 1) := by
  have hi := (List.getElem?_eq_some_iff.mp h).1
  obtain ⟨_, e⟩ := List.getElem?_eq_some_iff.mp h
  rw [← e, ← List.drop_eq_getElem_cons hi, List.take_append_drop]
  rfl
theorem ev_few {w : Nat} {ds : List Deed} (hg : GoodRow w ds) {i u : Nat} (h : (usF w ds)[i]? = some u) (x : Nat) (hx : x < 2 ^ w) : evK w ds x (renD (pos (usF w ds)) (dAt (plains w ds) (u - 1))) = val w ds x u := by
  have hr := refs_kept (plains_ahead hg) (few_split h)
  have hm : u ∈ usF w ds := List.mem_of_getElem? h
  obtain ⟨⟨h1, h2⟩, h3⟩ := usL_mem.mp hm
  have hle := fst_le (w := w) (ds := ds) (Nat.le_refl ds.length)
  have hlt : u - 1 < (plains w ds).length := by rw [plains_len]; omega
  unfold evK
  rw [stepF_ren (v := val w ds x) fun a ha => getD_pos _ (List.mem_cons.mpr ((List.mem_cons.mp (hr a ha)).imp id fun z => List.mem_of_mem_take z))]
  have := (plain_val hg (List.getElem?_eq_getElem hlt)).2 x hx
  unfold dAt
  rw [List.getElem?_eq_getElem hlt]
  rw [show u - 1 + 1 = u by omega] at this
  exact this
def keyD : Deed → Deed
  | .both a b => .both (min a b) (max a b)
  | d => d
theorem stepF_key (w : Nat) (v : Nat → Nat) (d : Deed) : stepF w v (keyD d) = stepF w v d := by
  cases d with
  | both a b =>
    simp only [keyD, stepF]
    rcases Nat.le_total a b with h | h
    · rw [Nat.min_eq_left h, Nat.max_eq_right h]
    · rw [Nat.min_eq_right h, Nat.max_eq_left h, Nat.xor_comm]
  | _ => rfl
theorem few_keys {w : Nat} {ds : List Deed} (hg : GoodRow w ds) (h1 : 1 ≤ w) {i j : Nat} {d e : Deed} (hi : (fewD w ds)[i]? = some d) (hj : (fewD w ds)[j]? = some e) (h : keyD d = keyD e) : i = j := by
  obtain ⟨u, hu, rfl⟩ := few_at hi
  obtain ⟨v, hv, rfl⟩ := few_at hj
  have : u = v := usF_apart hg (List.mem_cons_of_mem _ (List.mem_of_getElem? hu)) (List.mem_cons_of_mem _ (List.mem_of_getElem? hv)) (fun x hx => by
    rw [← ev_few hg hu x hx, ← ev_few hg hv x hx]
    unfold evK
    rw [← stepF_key, h, stepF_key]) h1
  subst this
  have := usF_inj (w := w) (ds := ds) (i := i + 1) (j := j + 1) (u := u) (by simpa using hu) (by simpa using hv)
  omega
def idle (w : Nat) : Deed → Bool
  | .mask _ m => decide (m = 0) || decide (m = 2 ^ w - 1)
  | .turn _ m => decide (m = 0)
  | .up _ n => decide (n = 0) || decide (n = w)
  | .down _ n => decide (n = 0) || decide (n = w)
  | .both a b => decide (a = b)
  | .fix _ => false
theorem and_all {x w : Nat} (h : x < 2 ^ w) : x &&& (2 ^ w - 1) = x := by rw [Nat.and_two_pow_sub_one_eq_mod, Nat.mod_eq_of_lt h]
def idleAt (w : Nat) : Deed → Option Nat
  | .mask a m => if m = 0 then none else some a
  | .turn a _ => some a
  | .up a n => if n = 0 then some a else none
  | .down a n => if n = 0 then some a else none
  | _ => none
theorem idle_at {w : Nat} {v : Nat → Nat} {d : Deed} (h : idle w d = true) (hv : ∀ a, v a < 2 ^ w) : match idleAt w d with
    | some a => a ∈ refs d ∧ stepF w v d = v a
    | none => stepF w v d = 0 := by
  cases d with
  | fix m => cases h
  | mask a m =>
    simp only [idle, Bool.or_eq_true, decide_eq_true_eq] at h
    simp only [idleAt]
    by_cases h0 : m = 0
    · rw [if_pos h0]; subst h0; exact Nat.and_zero _
    · rw [if_neg h0]
      rcases h with h | rfl
      · exact absurd h h0
      · exact ⟨by simp [refs], and_all (hv a)⟩
  | turn a m =>
    simp only [idle, decide_eq_true_eq] at h
    subst h
    exact ⟨by simp [refs], Nat.xor_zero _⟩
  | both a b =>
    simp only [idle, decide_eq_true_eq] at h
    subst h
    exact Nat.xor_self _
  | up a n =>
    simp only [idle, Bool.or_eq_true, decide_eq_true_eq] at h
    simp only [idleAt]
    by_cases h0 : n = 0
    · rw [if_pos h0]; subst h0
      exact ⟨by simp [refs], by simp only [stepF]; rw [Nat.pow_zero, Nat.mul_one, Nat.mod_eq_of_lt (hv a)]⟩
    · rw [if_neg h0]
      rcases h with h | rfl
      · exact absurd h h0
      · show stepF _ _ _ = 0
        simp only [stepF]; rw [Nat.mul_mod_left]
  | down a n =>
    simp only [idle, Bool.or_eq_true, decide_eq_true_eq] at h
    simp only [idleAt]
    by_cases h0 : n = 0
    · rw [if_pos h0]; subst h0
      exact ⟨by simp [refs], by simp only [stepF]; rw [Nat.pow_zero, Nat.div_one]⟩
    · rw [if_neg h0]
      rcases h with h | rfl
      · exact absurd h h0
      · show stepF _ _ _ = 0
        simp only [stepF]; exact Nat.div_eq_of_lt (hv a)
theorem val_lt {w : Nat} {ds : List Deed} (hg : GoodRow w ds) (x : Nat) (hx : x < 2 ^ w) (i : Nat) : val w ds x i < 2 ^ w := by
  unfold val
  exact getD_lt (fun v hv => vals_lt w ds [x] (fun u hu => by rw [List.mem_singleton.mp hu]; exact hx) (fun j d h => by have := hg j d h; rw [List.length_singleton, Nat.add_comm 1 j]; exact this) v hv) _
theorem few_idle {w : Nat} {ds : List Deed} (hg : GoodRow w ds) (h1 : 1 ≤ w) {i : Nat} {d : Deed} (h : (fewD w ds)[i]? = some d) : idle w d = false := by
  cases hid : idle w d with
  | false => rfl
  | true =>
    exfalso
    obtain ⟨u, hu, e⟩ := few_at h
    have hm : u ∈ usF w ds := List.mem_of_getElem? hu
    have hr := refs_kept (plains_ahead hg) (few_split hu)
    have hvl : ∀ x, x < 2 ^ w → ∀ a, ((0 :: usF w ds).map (val w ds x)).getD a 0 < 2 ^ w := fun x hx a => getD_lt (fun v hv => by
      obtain ⟨b, _, rfl⟩ := List.mem_map.mp hv
      exact val_lt hg x hx b) a
    have key := fun x hx => idle_at (v := fun a => ((0 :: usF w ds).map (val w ds x)).getD a 0) hid (hvl x hx)
    have hev : ∀ x, x < 2 ^ w → stepF w (fun a => ((0 :: usF w ds).map (val w ds x)).getD a 0) d = val w ds x u := fun x hx => by
      rw [← ev_few hg hu x hx, ← e]; rfl
    cases q : idleAt w d with
    | some a =>
      rw [q] at key
      have ha : a ∈ refs d := (key 0 (Nat.two_pow_pos w)).1
      rw [e, refs_ren] at ha
      obtain ⟨b, hb, hab⟩ := List.mem_map.mp ha
      have hb0 := hr b hb
      have hb1 : b ∈ 0 :: usF w ds := List.mem_cons.mpr ((List.mem_cons.mp hb0).imp id fun z => List.mem_of_mem_take z)
      have hub : u = b := usF_apart hg (List.mem_cons_of_mem _ hm) hb1 (fun x hx => by
        rw [← hev x hx, (key x hx).2, ← hab, getD_pos _ hb1]) h1
      subst hub
      have srt := usF_sorted w ds
      have es := few_split hu
      have es' : usF w ds = (usF w ds).take i ++ u :: (usF w ds).drop (i + 1) := es
      rcases List.mem_cons.mp hb0 with z | z
      · have := (List.pairwise_cons.mp srt).1 u hm
        omega
      · rw [es'] at srt
        have := (List.pairwise_append.mp (List.pairwise_cons.mp srt).2).2.2 u (by simpa using z) u List.mem_cons_self
        omega
    | none =>
      rw [q] at key
      have hle := fst_le (w := w) (ds := ds) (Nat.le_refl ds.length)
      obtain ⟨⟨h2, h3⟩, h4⟩ := usL_mem.mp hm
      have hlt : u - 1 < (plains w ds).length := by rw [plains_len]; omega
      obtain ⟨d0, hd0, ep⟩ := plains_at (List.getElem?_eq_getElem hlt)
      have hmk : ∀ y ∈ mk w ds (u - 1 + 1), y = (mk w ds (u - 1 + 1)).getD 0 0 := by
        rw [show u - 1 + 1 = u by omega]
        have hz : ∀ y ∈ mk w ds u, y = 0 := fun y hy => by
          unfold mk at hy
          obtain ⟨x, hx, rfl⟩ := List.mem_map.mp hy
          have hx2 : x < 2 ^ w := by
            unfold wds at hx
            rcases List.mem_cons.mp hx with rfl | hx
            · exact Nat.two_pow_pos w
            · obtain ⟨k, hk, rfl⟩ := List.mem_map.mp hx
              exact Nat.pow_lt_pow_right (by decide) (List.mem_range.mp hk)
          rw [← hev x hx2]; exact key x hx2
        intro y hy
        rw [hz y hy]
        have : (mk w ds u).getD 0 0 ∈ mk w ds u := by unfold mk wds; simp
        exact (hz _ this).symm
      unfold plainP at ep
      rw [if_pos hmk] at ep
      have ed : dAt (plains w ds) (u - 1) = .fix ((mk w ds (u - 1 + 1)).getD 0 0) := by
        unfold dAt
        rw [List.getElem?_eq_getElem hlt]; exact ep
      rw [ed] at e
      rw [e] at hid
      cases hid
theorem few_wanted {w : Nat} {ds : List Deed} (hg : GoodRow w ds) {i : Nat} (hi : i < (fewD w ds).length) : i + 1 = (fewD w ds).length ∨ ∃ j d, i < j ∧ (fewD w ds)[j]? = some d ∧ i + 1 ∈ refs d := by
  have hl : (fewD w ds).length = (usF w ds).length := by unfold fewD kept; rw [List.length_map]; rfl
  rw [hl] at hi ⊢
  have hu : (usF w ds)[i]? = some (usF w ds)[i] := List.getElem?_eq_getElem hi
  generalize (usF w ds)[i] = u at hu
  have hm : u ∈ usF w ds := List.mem_of_getElem? hu
  obtain ⟨⟨h1, h2⟩, h3⟩ := usL_mem.mp hm
  have hposu : pos (usF w ds) u = i + 1 := by
    have hin : u ∈ 0 :: usF w ds := List.mem_cons_of_mem _ hm
    have hlt := List.idxOf_lt_length_of_mem hin
    refine usF_inj (w := w) (ds := ds) (u := u) ?_ (by simpa using hu)
    unfold pos
    rw [List.getElem?_eq_getElem hlt, List.getElem_idxOf]
  rcases uLoop_why (plains_ahead hg) h3 with h | ⟨j, hj, hju, hjm, hr⟩
  · left
    have hlast := List.mem_singleton.mp h
    obtain ⟨us, eus⟩ := usL_last (used_last (plains w ds) (fst w ds ds.length)) (by omega)
    have eus' : usF w ds = us ++ [fst w ds ds.length] := eus
    have hll : (usF w ds)[us.length]? = some u := by rw [eus', List.getElem?_append_right (Nat.le_refl _), Nat.sub_self, hlast]; rfl
    have := usF_inj (w := w) (ds := ds) (i := i + 1) (j := us.length + 1) (u := u) (by simpa using hu) (by simpa using hll)
    have hl2 : (usF w ds).length = us.length + 1 := by rw [eus']; simp
    omega
  · right
    have hj1 : j + 1 ∈ usF w ds := usL_mem.mpr ⟨⟨by omega, by have := used_le (plains_ahead hg) hjm; omega⟩, hjm⟩
    obtain ⟨k, hk⟩ := List.mem_iff_getElem?.mp hj1
    have hik : i < k := by
      rcases Nat.lt_or_ge i k with h | h
      · exact h
      · exfalso
        have srt := (List.pairwise_cons.mp (usF_sorted w ds)).2
        rcases Nat.lt_or_eq_of_le h with h | h
        · have hki := (List.getElem?_eq_some_iff.mp hk)
          have hii := (List.getElem?_eq_some_iff.mp hu)
          obtain ⟨hk1, ek⟩ := hki
          obtain ⟨hi1, ei⟩ := hii
          have := List.pairwise_iff_getElem.mp srt k i hk1 hi1 h
          rw [ek, ei] at this
          omega
        · subst h
          rw [hk] at hu
          have := Option.some.inj hu
          omega
    refine ⟨k, renD (pos (usF w ds)) (dAt (plains w ds) j), hik, ?_, ?_⟩
    · unfold fewD kept
      rw [List.getElem?_map]
      have hk' : (usL (used (plains w ds) (fst w ds ds.length)) 1 (fst w ds ds.length))[k]? = some (j + 1) := hk
      rw [hk']
      rfl
    · rw [refs_ren, ← hposu]
      rw [refsAt_d] at hr
      exact List.mem_map.mpr ⟨u, hr, rfl⟩
def tupN (m : List Nat) : Dm := .tup (nats m)
theorem words_ok (w : Nat) (hw : w ≤ 64) {s1 s2 s3 : Sl} : fCat (fLst [(fC (.int 0))]) (fComp (iR (fVar 0)) (.nm 0) [none, some 0, some 1, some 2, some 3] (op2 oShl (fC (.int 1)) (fVar 0))) [.sh (.int w), s1, s2, s3] = some (.ow (nats (wds w))) := by
  have e : nats (wds w) = [Dm.int ((0 : Nat) : Int)] ++ (List.range w).map fun k => Dm.int ((2 ^ k : Nat) : Int) := by
    unfold nats wds
    rw [List.map_cons, List.map_map]; rfl
  rw [e]
  refine cat_of (dt_of (r := .ow [.int 0]) (lst_of (rs := [.sh (.int 0)]) rfl rfl (by rw [line24]; simp))) (dt_of (comp_of (ds := rng 0 w) (iR_of (dt_of rfl) (okR_nat (by omega))) (by rw [rng_len, line24]; omega) (mapD_rng (fun k => Dm.int ((2 ^ k : Nat) : Int)) fun k hk => ⟨_, shl1 (b := k) (dt_of rfl) (by omega), rfl⟩))) (by simp [line24]; omega)
theorem wds_lt {w x : Nat} (h1 : 1 ≤ w) (h : x ∈ wds w) : x < 2 ^ w := by
  unfold wds at h
  rcases List.mem_cons.mp h with rfl | h
  · exact Nat.two_pow_pos w
  · obtain ⟨k, hk, rfl⟩ := List.mem_map.mp h
    exact Nat.pow_lt_pow_right (by decide) (List.mem_range.mp hk)
theorem mark_of_ok (w : Nat) (ds : List Deed) (i : Nat) (hi : i ≤ ds.length) (hw : w ≤ 64) : F_mark_of [.lst ((wds w).map fun x => .lst (nats (vals w [x] ds))), .int i] = some (.sh (tupN (mk w ds i))) := by
  refine body_rt (r := (Rs.sh (tupN (mk w ds i))).out) (δ := [.sh (.lst ((wds w).map fun x => .lst (nats (vals w [x] ds)))), .sh (.int i)]) rfl rfl (ret_of (tuple_of (r := .ow (nats (mk w ds i))) ?_ rfl))
  have e : nats (mk w ds i) = (wds w).map fun x => Dm.int ((val w ds x i : Nat) : Int) := by unfold nats mk; rw [List.map_map]; rfl
  rw [e]
  refine comp_of (ds := (wds w).map fun x => .lst (nats (vals w [x] ds))) (iS_of (r := .sh (.lst ((wds w).map fun x => .lst (nats (vals w [x] ds))))) rfl rfl) (by rw [List.length_map, line24]; unfold wds; simp; omega) (mapD_map (fun x => Dm.lst (nats (vals w [x] ds))) (fun x => Dm.int ((val w ds x i : Nat) : Int)) fun x hx => ⟨_, rfl, .sh (.int (val w ds x i : Nat)), ?_, rfl⟩)
  exact ix_of (a := .lst (nats (vals w [x] ds))) (i := (i : Int)) (dt_of rfl) (dt_of rfl) (at_nats (by rw [vals_len, List.length_singleton]; omega))
theorem marks_of_ok (w : Nat) (h1 : 1 ≤ w) (hw : w ≤ 64) (ds : List Deed) (hg : GoodRow w ds) (hl : ds.length ≤ 400) : F_marks_of [.int w, .lst (ds.map enc)] = some (.ow ((mks w ds).map tupN)) := by
  refine body_rt (r := (Rs.ow ((mks w ds).map tupN)).out) (δ := [.sh (.int w), .sh (.lst (ds.map enc)), .un, .un]) rfl rfl (seq_nx (set_fz (r := .ow (nats (wds w))) (words_ok w hw) rfl) (seq_nx (set_fz (r := .ow ((wds w).map fun x => .lst (nats (vals w [x] ds)))) ?_ rfl) (ret_of ?_)))
  · refine comp_of (ds := nats (wds w)) (iL_of (r := .sh (.lst (nats (wds w)))) rfl rfl) (by rw [nats_len, line24]; unfold wds; simp; omega) (mapD_map (fun x : Nat => Dm.int (x : Int)) (fun x => .lst (nats (vals w [x] ds))) fun x hx => ⟨_, rfl, .ow (nats (vals w [x] ds)), call_of (rs := [.sh (.int w), .sh (.lst (ds.map enc)), .sh (.int x)]) rfl (values_ok w hw ds x (wds_lt h1 hx) hg hl) rfl, rfl⟩)
  · have e : (mks w ds).map tupN = (List.range (ds.length + 1)).map fun i => tupN (mk w ds i) := by unfold mks; rw [List.map_map]; rfl
    rw [e]
    refine comp_of (ds := rng 0 (ds.length + 1)) (iR_of (addN (a := ds.length) (b := 1) (dt_of (fB_of (d := .int ds.length) (rs := [.sh (.lst (ds.map enc))]) rfl (by simp [oLen]))) (dt_of rfl) |> dt_of) (okR_nat (by omega))) (by rw [rng_len, line24]; omega) (mapD_rng (fun i => tupN (mk w ds i)) fun k hk => ⟨.sh (tupN (mk w ds k)), call_of (rs := [.sh (.lst ((wds w).map fun x => .lst (nats (vals w [x] ds)))), .sh (.int k)]) rfl (mark_of_ok w ds k (by omega) hw) rfl, rfl⟩)
def cI (m : List Nat) : List Int := m.map fun (n : Nat) => (n : Int)
theorem cI_inj : ∀ {a b : List Nat}, cI a = cI b → a = b
  | [], [], _ => rfl
  | [], _ :: _, e => by cases e
  | _ :: _, [], e => by cases e
  | x :: a, y :: b, e => by
    unfold cI at e
    rw [List.map_cons, List.map_cons] at e
    injection e with e1 e2
    rw [cI_inj (a := a) (b := b) e2, Int.ofNat.inj e1]
theorem ints_nats : ∀ m : List Nat, ints? (nats m) = some (cI m)
  | [] => rfl
  | n :: m => by
    show ((Dm.int (n : Int)).int?.bind fun i => (ints? (nats m)).map fun r => i :: r) = _
    rw [ints_nats m]; rfl
theorem key_tupN (m : List Nat) : (tupN m).key? = some (cI m) := ints_nats m
theorem has_snoc : ∀ (ks : List (List Int)) (k n : List Int), hasT (ks ++ [k]) n = (hasT ks n || decide (k = n))
  | [], k, n => by
    show (if k = n then true else false) = (false || decide (k = n))
    by_cases h : k = n <;> simp [h]
  | a :: ks, k, n => by
    show (if a = n then true else hasT (ks ++ [k]) n) = ((if a = n then true else hasT ks n) || decide (k = n))
    by_cases h : a = n
    · rw [if_pos h, if_pos h, Bool.true_or]
    · rw [if_neg h, if_neg h, has_snoc ks]
theorem look_old {n : List Int} {d : Dm} : ∀ {ks : List (List Int)} {vs : List Dm} (k : List Int) (e : Dm), lookT ks vs n = some d → lookT (ks ++ [k]) (vs ++ [e]) n = some d
  | [], vs, k, e, h => by cases h
  | a :: ks, [], k, e, h => by cases h
  | a :: ks, v :: vs, k, e, h => by
    unfold lookT at h
    show (if a = n then some v else lookT (ks ++ [k]) (vs ++ [e]) n) = _
    by_cases hk : a = n
    · rw [if_pos hk] at h ⊢; exact h
    · rw [if_neg hk] at h ⊢; exact look_old k e h
theorem look_new {n : List Int} {e : Dm} : ∀ {ks : List (List Int)} {vs : List Dm}, hasT ks n = false → ks.length = vs.length → lookT (ks ++ [n]) (vs ++ [e]) n = some e
  | [], [], _, _ => by show (if n = n then some e else none) = _; rw [if_pos rfl]
  | [], _ :: _, _, h => by cases h
  | _ :: _, [], _, h => by cases h
  | a :: ks, v :: vs, h, hl => by
    unfold hasT at h
    by_cases hk : a = n
    · rw [if_pos hk] at h; cases h
    · rw [if_neg hk] at h
      show (if a = n then some v else lookT (ks ++ [n]) (vs ++ [e]) n) = _
      rw [if_neg hk]
      exact look_new h (by simpa using hl)
theorem putT_of {i : Nat} {fk fe : EF} {δ : List Sl} {ks : List (List Int)} {ds : List Dm} {n : List Int} {r : Rs} {d kd : Dm} (h1 : δ[i]? = some (.oT ks ds)) (h2 : fe δ = some r) (h3 : r.fz = .sh d) (h4 : dt fk δ = some kd) (h4' : kd.key? = some n) (h5 : hasT ks n = false) (h6 : ks.length < sizeLine) (h7 : onlyD i δ) : gPutT i fk fe δ = some (.nx (δ.set i (.oT (ks ++ [n]) (ds ++ [d])))) := by
  unfold gPutT
  rw [h1]
  show (fz fe δ).bind _ = _
  rw [fz_some h2, Option.bind_some, h4, Option.bind_some, h4', Option.bind_some]
  refine Eq.trans (if_pos ⟨by rw [h3]; rfl, h6, h7, h5⟩) ?_
  rw [h3]
  rfl
theorem ninT_of {i : Nat} {f : EF} {δ : List Sl} {ks : List (List Int)} {ds : List Dm} {n : List Int} {kd : Dm} {b : Bool} (h1 : δ[i]? = some (.oT ks ds)) (h4 : dt f δ = some kd) (h4' : kd.key? = some n) (h5 : hasT ks n = b) : bNinT f i δ = some (!b) := by
  unfold bNinT
  rw [h1]
  show (dt f δ).bind _ = _
  rw [h4, Option.bind_some, h4', ← h5]
  rfl
theorem tget_of {i : Nat} {f : EF} {δ : List Sl} {ks : List (List Int)} {ds : List Dm} {n : List Int} {kd d : Dm} (h1 : δ[i]? = some (.oT ks ds)) (h4 : dt f δ = some kd) (h4' : kd.key? = some n) (h5 : lookT ks ds n = some d) : fTGet i f δ = some (.sh d) := by
  unfold fTGet
  rw [h1]
  show (dt f δ).bind _ = _
  rw [h4, Option.bind_some, h4', Option.bind_some, h5]
  rfl
structure Kn (p : List (List Nat)) (ks : List (List Int)) (vs : List Dm) : Prop where
  has : ∀ m, hasT ks (cI m) = decide (m ∈ p)
  look : ∀ m ∈ p, lookT ks vs (cI m) = some (.int (p.idxOf m : Nat))
  len : ks.length = vs.length
  le : ks.length ≤ p.length
theorem only1 {a b c : Dm} {ks : List (List Int)} {vs : List Dm} : onlyD 1 [.sh a, .oT ks vs, .sh b, .sh c] := fun j s h hs => by
  match j, h with
  | 0, h => cases h; rcases hs with ⟨_, _, z⟩ | ⟨_, _, z⟩ <;> cases z
  | 1, _ => rfl
  | 2, h => cases h; rcases hs with ⟨_, _, z⟩ | ⟨_, _, z⟩ <;> cases z
  | 3, h => cases h; rcases hs with ⟨_, _, z⟩ | ⟨_, _, z⟩ <;> cases z
  | n + 4, h => cases h
theorem firsts_loop (L : Dm) : ∀ (r p : List (List Nat)) (ks : List (List Int)) (vs : List Dm) (s2 s3 : Sl), Kn p ks vs → p.length + r.length ≤ 1000 → ∃ ks' vs' t2 t3, Kn (p ++ r) ks' vs' ∧ loopD (.tp [2, 3]) B_firsts_of_1 (enumFrom p.length (r.map tupN)) [.sh L, .oT ks vs, s2, s3] = some (.nx [.sh L, .oT ks' vs', t2, t3])
  | [], p, ks, vs, s2, s3, K, _ => ⟨ks, vs, s2, s3, by rw [List.append_nil]; exact K, rfl⟩
  | m :: r, p, ks, vs, s2, s3, K, hl => by
    rw [List.length_cons] at hl
    have hlen : (p ++ [m]).length = p.length + 1 := by rw [List.length_append]; rfl
    by_cases hm : m ∈ p
    · have K' : Kn (p ++ [m]) ks vs := by
        refine ⟨fun n => ?_, fun n hn => ?_, K.len, by rw [hlen]; have := K.le; omega⟩
        · rw [K.has n]
          congr 1
          rw [List.mem_append, List.mem_singleton]
          exact propext ⟨.inl, fun z => z.elim id fun e => by rw [e]; exact hm⟩
        · have hn' : n ∈ p := (List.mem_append.mp hn).elim id fun e => by rw [List.mem_singleton.mp e]; exact hm
          rw [K.look n hn', List.idxOf_append, if_pos hn']
      obtain ⟨ks', vs', t2, t3, K2, e⟩ := firsts_loop L r (p ++ [m]) ks vs (.sh (.int (p.length : Nat))) (.sh (tupN m)) K' (by rw [hlen]; omega)
      refine ⟨ks', vs', t2, t3, by rw [List.append_assoc] at K2; exact K2, ?_⟩
      rw [hlen] at e
      refine loop_cons (δ1 := [.sh L, .oT ks vs, .sh (.int (p.length : Nat)), .sh (tupN m)]) rfl (if_f ?_ nil_nx) e
      exact ninT_of (b := true) rfl (dt_of rfl) (key_tupN m) (by rw [K.has m, decide_eq_true hm])
    · have hh : hasT ks (cI m) = false := by rw [K.has m, decide_eq_false hm]
      have K' : Kn (p ++ [m]) (ks ++ [cI m]) (vs ++ [.int (p.length : Nat)]) := by
        refine ⟨fun n => ?_, fun n hn => ?_, by rw [List.length_append, List.length_append, K.len]; rfl, by rw [List.length_append, hlen]; have := K.le; simp; omega⟩
        · rw [has_snoc, K.has n]
          by_cases e : n = m
          · subst e; simp
          · have : ¬ cI m = cI n := fun z => e (cI_inj z).symm
            simp [e, this]
        · by_cases hn' : n ∈ p
          · rw [look_old _ _ (K.look n hn'), List.idxOf_append, if_pos hn']
          · have e : n = m := by
              rcases List.mem_append.mp hn with h | h
              · exact absurd h hn'
              · exact List.mem_singleton.mp h
            subst e
            rw [look_new hh K.len, List.idxOf_append, if_neg hn', List.idxOf_cons_self]
            simp
      obtain ⟨ks', vs', t2, t3, K2, e⟩ := firsts_loop L r (p ++ [m]) (ks ++ [cI m]) (vs ++ [.int (p.length : Nat)]) (.sh (.int (p.length : Nat))) (.sh (tupN m)) K' (by rw [hlen]; omega)
      refine ⟨ks', vs', t2, t3, by rw [List.append_assoc] at K2; exact K2, ?_⟩
      rw [hlen] at e
      refine loop_cons (δ1 := [.sh L, .oT ks vs, .sh (.int (p.length : Nat)), .sh (tupN m)]) (δ2 := [.sh L, .oT (ks ++ [cI m]) (vs ++ [.int (p.length : Nat)]), .sh (.int (p.length : Nat)), .sh (tupN m)]) rfl (if_t ?_ ?_) e
      · exact ninT_of (b := false) rfl (dt_of rfl) (key_tupN m) hh
      · have := K.le
        exact putT_of (ks := ks) (ds := vs) (r := .sh (.int (p.length : Nat))) rfl rfl rfl (dt_of rfl) (key_tupN m) hh (by rw [line24]; omega) only1
theorem firsts_ok (ms : List (List Nat)) (hl : ms.length ≤ 1000) : F_firsts_of [.lst (ms.map tupN)] = some (.ow (nats (ms.map fun m => ms.idxOf m))) := by
  obtain ⟨ks, vs, t2, t3, K, e⟩ := firsts_loop (.lst (ms.map tupN)) ms [] [] [] .un .un ⟨fun _ => rfl, (fun m hm => by cases hm), rfl, Nat.le_refl _⟩ (by simpa using hl)
  refine body_rt (r := (Rs.ow (nats (ms.map fun m => ms.idxOf m))).out) (δ := [.sh (.lst (ms.map tupN)), .un, .un, .un]) rfl rfl (seq_nx (δ' := [.sh (.lst (ms.map tupN)), .oT [] [], .un, .un]) rfl (seq_nx (for_of (iE_of (r := .sh (.lst (ms.map tupN))) rfl rfl) e) (ret_of ?_)))
  have e2 : nats (ms.map fun m => ms.idxOf m) = ms.map fun m => Dm.int ((ms.idxOf m : Nat) : Int) := by unfold nats; rw [List.map_map]; rfl
  rw [e2]
  refine comp_of (ds := ms.map tupN) (iS_of (r := .sh (.lst (ms.map tupN))) rfl rfl) (by rw [List.length_map, line24]; omega) (mapD_map tupN (fun m => Dm.int ((ms.idxOf m : Nat) : Int)) fun m hm => ⟨_, rfl, .sh (.int (ms.idxOf m : Nat)), ?_, rfl⟩)
  exact tget_of (ks := ks) (ds := vs) rfl (dt_of rfl) (key_tupN m) (K.look m (by simpa using hm))
theorem or_l {f g : EF} {δ : List Sl} {r : Rs} (h : f δ = some r) : fOr f g δ = some r := by unfold fOr; rw [h]
theorem or_r {f g : EF} {δ : List Sl} {r : Rs} (h : f δ = none) (h2 : g δ = some r) : fOr f g δ = some r := by unfold fOr; rw [h]; exact h2
def LookN (T : Dm) (a b : Nat) : Prop := ∀ (f g : EF) (δ : List Sl), dt f δ = some T → dt g δ = some (.int (a : Int)) → fOr (fIx f g) (fDGet f g) δ = some (.sh (.int (b : Nat)))
theorem look_lst {fs : List Nat} {a : Nat} (h : a < fs.length) : LookN (.lst (nats fs)) a (fs.getD a 0) := fun f g δ h1 h2 => or_l (ix_of h1 h2 (at_nats h))
theorem look_dct {gs hs : List Nat} {a b : Nat} (h : lookD (cI gs) (nats hs) a = some (.int (b : Nat))) : LookN (.dct (cI gs) (nats hs)) a b := fun f g δ h1 h2 => by
  refine or_r ?_ ?_
  · unfold fIx
    rw [h1, Option.bind_some, h2]; rfl
  · unfold fDGet
    rw [h1, Option.bind_some, h2, Option.bind_some]
    show (lookD (cI gs) (nats hs) a).map Rs.sh = _
    rw [h]; rfl
theorem ren_ok (T : Dm) (f : Nat → Nat) (d : Deed) (h : ∀ a ∈ refs d, LookN T a (f a)) : F_renumbered [enc d, T] = some (.sh (enc (renD f d))) := by
  have n0 : ∀ (x : Str) (r : List Dm), atI (Dm.str x :: r) 0 = some (.str x) := fun x r => atI_nat (j := 0) rfl
  have n1 : ∀ (x : Dm) (y : Dm) (r : List Dm), atI (x :: y :: r) 1 = some y := fun x y r => atI_nat (j := 1) rfl
  have n2 : ∀ (x y z : Dm) (r : List Dm), atI (x :: y :: z :: r) 2 = some z := fun x y z r => atI_nat (j := 2) rfl
  have three : ∀ (x : Str) (a b : Nat) (g : Option Rs), (x = "mask" ∨ x = "turn" ∨ x = "up" ∨ x = "down") → LookN T a (f a) → F_renumbered [.tup [.str x, .int a, .int b], T] = some (.sh (.tup [.str x, .int (f a : Nat), .int b])) := fun x a b _ hx hl => by
    refine body_rt (r := (Rs.sh (.tup [.str x, .int (f a : Nat), .int b])).out) (δ := [.sh (.tup [.str x, .int a, .int b]), .sh T, .un]) rfl rfl (seq_nx (set_fz (r := .sh (.str x)) (ix_of (a := .tup [.str x, .int a, .int b]) (i := 0) (dt_of rfl) (dt_of rfl) (n0 _ _)) rfl) (seq_nx (if_f ?_ nil_nx) (seq_nx (if_f ?_ nil_nx) (ret_of (tup_of (rs := [.sh (.str x), .sh (.int (f a : Nat)), .sh (.int b)]) (evs_cons (r := .sh (.str x)) rfl (evs_cons (r := .sh (.int (f a : Nat))) (hl _ _ _ (dt_of rfl) (dt_of (ix_of (a := .tup [.str x, .int a, .int b]) (d := .int a) (i := 1) (dt_of rfl) (dt_of rfl) (n1 _ _ _)))) (evs_cons (r := .sh (.int b)) (ix_of (a := .tup [.str x, .int a, .int b]) (d := .int b) (i := 2) (dt_of rfl) (dt_of rfl) (n2 _ _ _ _)) evs_nil))) rfl (by rw [line24]; simp))))))
    · rcases hx with rfl | rfl | rfl | rfl <;> simp [bodyD, gRet, gSeq, gIf, gSet, gApp, BF.gNil, gFrz, frz, op2, dt, fVar, fC, evs, fTup, fLst, fCall, fB, fIx, ixD, fSl, slD, pNo, pSome, fz, own?, bB, bAnd, bOr, bNot, vAnd, vOr, vNot, fIsi, fList, fNeg, fCat, fRep, oAdd, oSub, oMul, oDiv, oMod, oPow, oShl, oShr, oAnd, oOr, oXor, oLt, oLe, oGt, oGe, oMin, oLen, oSum, str_tab]
    · rcases hx with rfl | rfl | rfl | rfl <;> simp [bodyD, gRet, gSeq, gIf, gSet, gApp, BF.gNil, gFrz, frz, op2, dt, fVar, fC, evs, fTup, fLst, fCall, fB, fIx, ixD, fSl, slD, pNo, pSome, fz, own?, bB, bAnd, bOr, bNot, vAnd, vOr, vNot, fIsi, fList, fNeg, fCat, fRep, oAdd, oSub, oMul, oDiv, oMod, oPow, oShl, oShr, oAnd, oOr, oXor, oLt, oLe, oGt, oGe, oMin, oLen, oSum, str_tab]
  cases d with
  | fix m => simp [F_renumbered, bodyD, gRet, gSeq, gIf, gSet, gApp, BF.gNil, gFrz, frz, op2, dt, fVar, fC, evs, fTup, fLst, fCall, fB, fIx, ixD, fSl, slD, pNo, pSome, fz, own?, bB, bAnd, bOr, bNot, vAnd, vOr, vNot, fIsi, fList, fNeg, fCat, fRep, oAdd, oSub, oMul, oDiv, oMod, oPow, oShl, oShr, oAnd, oOr, oXor, oLt, oLe, oGt, oGe, oMin, oLen, oSum, enc, renD, n0, n1, n2, str_tab, line24]
  | mask a m => exact three "mask" a m none (.inl rfl) (h a (by simp [refs]))
  | turn a m => exact three "turn" a m none (.inr (.inl rfl)) (h a (by simp [refs]))
  | up a m => exact three "up" a m none (.inr (.inr (.inl rfl))) (h a (by simp [refs]))
  | down a m => exact three "down" a m none (.inr (.inr (.inr rfl))) (h a (by simp [refs]))
  | both a b =>
    refine body_rt (r := (Rs.sh (.tup [.str "both", .int (f a : Nat), .int (f b : Nat)])).out) (δ := [.sh (.tup [.str "both", .int a, .int b]), .sh T, .un]) rfl rfl (seq_nx (set_fz (r := .sh (.str "both")) (ix_of (a := .tup [.str "both", .int a, .int b]) (i := 0) (dt_of rfl) (dt_of rfl) (n0 _ _)) rfl) (seq_nx (if_f ?_ nil_nx) (seq_rt (if_t ?_ (ret_of (tup_of (rs := [.sh (.str "both"), .sh (.int (f a : Nat)), .sh (.int (f b : Nat))]) (evs_cons (r := .sh (.str "both")) rfl (evs_cons (r := .sh (.int (f a : Nat))) (h a (by simp [refs]) _ _ _ (dt_of rfl) (dt_of (ix_of (a := .tup [.str "both", .int a, .int b]) (d := .int a) (i := 1) (dt_of rfl) (dt_of rfl) (n1 _ _ _)))) (evs_cons (r := .sh (.int (f b : Nat))) (h b (by simp [refs]) _ _ _ (dt_of rfl) (dt_of (ix_of (a := .tup [.str "both", .int a, .int b]) (d := .int b) (i := 2) (dt_of rfl) (dt_of rfl) (n2 _ _ _ _)))) evs_nil))) rfl (by rw [line24]; simp)))))))
    · simp [bodyD, gRet, gSeq, gIf, gSet, gApp, BF.gNil, gFrz, frz, op2, dt, fVar, fC, evs, fTup, fLst, fCall, fB, fIx, ixD, fSl, slD, pNo, pSome, fz, own?, bB, bAnd, bOr, bNot, vAnd, vOr, vNot, fIsi, fList, fNeg, fCat, fRep, oAdd, oSub, oMul, oDiv, oMod, oPow, oShl, oShr, oAnd, oOr, oXor, oLt, oLe, oGt, oGe, oMin, oLen, oSum, str_tab]
    · simp [bodyD, gRet, gSeq, gIf, gSet, gApp, BF.gNil, gFrz, frz, op2, dt, fVar, fC, evs, fTup, fLst, fCall, fB, fIx, ixD, fSl, slD, pNo, pSome, fz, own?, bB, bAnd, bOr, bNot, vAnd, vOr, vNot, fIsi, fList, fNeg, fCat, fRep, oAdd, oSub, oMul, oDiv, oMod, oPow, oShl, oShr, oAnd, oOr, oXor, oLt, oLe, oGt, oGe, oMin, oLen, oSum, str_tab]
theorem used_by_ok (d : Deed) : F_used_by [enc d] = some (.ow (nats (refs d))) := by
  have n0 : ∀ (x : Str) (r : List Dm), atI (Dm.str x :: r) 0 = some (.str x) := fun x r => atI_nat (j := 0) rfl
  have n1 : ∀ (x : Dm) (y : Dm) (r : List Dm), atI (x :: y :: r) 1 = some y := fun x y r => atI_nat (j := 1) rfl
  have n2 : ∀ (x y z : Dm) (r : List Dm), atI (x :: y :: z :: r) 2 = some z := fun x y z r => atI_nat (j := 2) rfl
  cases d <;> simp [F_used_by, bodyD, gRet, gSeq, gIf, gSet, gApp, BF.gNil, gFrz, frz, op2, dt, fVar, fC, evs, fTup, fLst, fCall, fB, fIx, ixD, fSl, slD, pNo, pSome, fz, own?, bB, bAnd, bOr, bNot, vAnd, vOr, vNot, fIsi, fList, fNeg, fCat, fRep, oAdd, oSub, oMul, oDiv, oMod, oPow, oShl, oShr, oAnd, oOr, oXor, oLt, oLe, oGt, oGe, oMin, oLen, oSum, enc, refs, nats, n0, n1, n2, str_tab, line24, Rs.out]
theorem plain_of_ok (d : Deed) (m fs : List Nat) (hm : 1 ≤ m.length) (hl : m.length ≤ 1000) (hr : ∀ a ∈ refs d, a < fs.length) : F_plain_of [enc d, tupN m, .lst (nats fs)] = some (.sh (enc (plainP (fun a => fs.getD a 0) d m))) := by
  have h0 : ∀ δ : List Sl, ∀ i, δ[i]? = some (.sh (tupN m)) → fIx (fVar i) (fC (.int 0)) δ = some (.sh (.int (m.getD 0 0 : Nat))) := fun δ i h => ix_of (a := tupN m) (i := ((0 : Nat) : Int)) (dt_of (r := .sh (tupN m)) (by unfold fVar; rw [h])) (dt_of rfl) (at_nats hm)
  have ht : bB (fB (oAll fun bs => bs.all id) [(fComp (iS (fVar 1)) (.nm 0) [none, some 0, some 1, some 2] (op2 (oEq false) (fVar 0) (fIx (fVar 2) (fC (.int 0)))))]) [.sh (enc d), .sh (tupN m), .sh (.lst (nats fs))] = some (m.all fun y => decide (y = m.getD 0 0)) := by
    refine bB_of (dt_of (fB_of (d := .bl (m.all fun y => decide (y = m.getD 0 0))) (rs := [.sh (.lst (m.map fun y => Dm.bl (decide (y = m.getD 0 0))))]) (evs_cons (r := .ow (m.map fun y => Dm.bl (decide (y = m.getD 0 0)))) (comp_of (ds := nats m) (iS_of (r := .sh (tupN m)) rfl rfl) (by rw [nats_len, line24]; omega) (mapD_map (fun y : Nat => Dm.int (y : Int)) (fun y => Dm.bl (decide (y = m.getD 0 0))) fun y hy => ⟨_, rfl, .sh (.bl (decide (y = m.getD 0 0))), eqN' (dt_of rfl) (dt_of (h0 _ 2 rfl)) rfl, rfl⟩)) evs_nil) ?_))
    show (bls? (m.map fun y => Dm.bl (decide (y = m.getD 0 0)))).map (fun bs => Dm.bl (bs.all id)) = _
    have e : (m.map fun y => Dm.bl (decide (y = m.getD 0 0))) = (m.map fun y => decide (y = m.getD 0 0)).map Dm.bl := by rw [List.map_map]; rfl
    rw [e, bls_of, Option.map_some, List.all_map]
    rfl
  unfold plainP
  by_cases hc : ∀ y ∈ m, y = m.getD 0 0
  · rw [if_pos hc]
    have hb : (m.all fun y => decide (y = m.getD 0 0)) = true := List.all_eq_true.mpr fun y hy => decide_eq_true (hc y hy)
    rw [hb] at ht
    exact body_rt (r := (Rs.sh (.tup [.str "fix", .int (m.getD 0 0 : Nat)])).out) (δ := [.sh (enc d), .sh (tupN m), .sh (.lst (nats fs))]) rfl rfl (seq_rt (if_t ht (ret_of (tup_of (rs := [.sh (.str "fix"), .sh (.int (m.getD 0 0 : Nat))]) (evs_cons (r := .sh (.str "fix")) rfl (evs_cons (r := .sh (.int (m.getD 0 0 : Nat))) (h0 _ 1 rfl) evs_nil)) rfl (by rw [line24]; simp)))))
  · rw [if_neg hc]
    have hb : (m.all fun y => decide (y = m.getD 0 0)) = false := by
      cases q : m.all fun y => decide (y = m.getD 0 0) with
      | false => rfl
      | true => exact absurd (fun y hy => of_decide_eq_true (List.all_eq_true.mp q y hy)) hc
    rw [hb] at ht
    exact body_rt (r := (Rs.sh (enc (renD (fun a => fs.getD a 0) d))).out) (δ := [.sh (enc d), .sh (tupN m), .sh (.lst (nats fs))]) rfl rfl (seq_nx (if_f ht nil_nx) (ret_of (call_of (rs := [.sh (enc d), .sh (.lst (nats fs))]) rfl (ren_ok _ _ d fun a ha => look_lst (hr a ha)) rfl)))
theorem puts_ok : ∀ (n : Nat) (ks : List Nat), putKs (cI ks) (n : Int) = cI (addK ks n) := fun n ks => by
  have hm : ((n : Int) ∈ cI ks) ↔ n ∈ ks := by
    unfold cI
    rw [List.mem_map]
    exact ⟨fun ⟨a, ha, e⟩ => by rw [← Int.ofNat.inj e]; exact ha, fun h => ⟨n, h, rfl⟩⟩
  unfold putKs addK
  by_cases h : n ∈ ks
  · rw [if_pos h, if_pos (hm.mpr h)]
  · rw [if_neg h, if_neg (fun z => h (hm.mp z))]
    unfold cI
    rw [List.map_append]; rfl
theorem mem_cI {n : Nat} {ks : List Nat} : ((n : Int) ∈ cI ks) ↔ n ∈ ks := by
  unfold cI
  rw [List.mem_map]
  exact ⟨fun ⟨a, ha, e⟩ => by rw [← Int.ofNat.inj e]; exact ha, fun h => ⟨n, h, rfl⟩⟩
theorem only_at {i : Nat} {δ : List Sl} (h : ∀ j s, δ[j]? = some s → j ≠ i → s.own = false ∨ ∃ ds, s = .ow ds) : onlyD i δ := fun j s hj hs => by
  by_cases e : j = i
  · exact e
  · rcases h j s hj e with z | ⟨ds, z⟩
    · rcases hs with ⟨_, _, q⟩ | ⟨_, _, q⟩ <;> (subst q; cases z)
    · rcases hs with ⟨_, _, q⟩ | ⟨_, _, q⟩ <;> (rw [z] at q; cases q)
theorem put_any {i : Nat} {fk fe : EF} {δ : List Sl} {ks : List Int} {ds : List Dm} {n : Int} {r : Rs} {d : Dm} (h1 : δ[i]? = some (.od ks ds)) (h2 : fe δ = some r) (h3 : r.fz = .sh d) (h4 : dt fk δ = some (.int n)) (h6 : ks.length < sizeLine) (h7 : onlyD i δ) : gPut i fk fe δ = some (.nx (δ.set i (.od (putKs ks n) (putDs ks ds n d)))) := by
  unfold gPut
  rw [h1]
  show (fz fe δ).bind _ = _
  rw [fz_some h2, Option.bind_some, h4, Option.bind_some]
  refine Eq.trans (if_pos ⟨by rw [h3]; rfl, h6, h7⟩) ?_
  rw [h3]
  rfl
theorem only2 {a b : Dm} {c : Int} {ks : List Int} {ds : List Dm} {s : Sl} {d : Dm} : onlyD 2 [.sh a, .sh b, .od ks ds, .sh (.int c), .sh d] := only_at fun j s hj hne => by
  match j, hj with
  | 0, h => cases h; exact .inl rfl
  | 1, h => cases h; exact .inl rfl
  | 2, _ => exact absurd rfl hne
  | 3, h => cases h; exact .inl rfl
  | 4, h => cases h; exact .inl rfl
  | n + 5, h => cases h
theorem adds_len : ∀ (rs ks : List Nat), (rs.foldl addK ks).length ≤ ks.length + rs.length
  | [], ks => by simp
  | r :: rs, ks => by
    rw [List.foldl_cons]
    have := adds_len rs (addK ks r)
    have h : (addK ks r).length ≤ ks.length + 1 := by
      unfold addK
      split
      · omega
      · rw [List.length_append]; exact Nat.le_refl _
    rw [List.length_cons]
    omega
theorem puts_loop (L : Dm) (last : Int) (c : Int) : ∀ (rs ks : List Nat) (bs : List Dm) (s4 : Sl), ks.length + rs.length ≤ 10000 → ∃ bs' t4, loopD (.nm 4) B_used_for_1 (nats rs) [.sh L, .sh (.int last), .od (cI ks) bs, .sh (.int c), s4] = some (.nx [.sh L, .sh (.int last), .od (cI (rs.foldl addK ks)) bs', .sh (.int c), t4])
  | [], ks, bs, s4, _ => ⟨bs, s4, rfl⟩
  | r :: rs, ks, bs, s4, hl => by
    rw [List.length_cons] at hl
    have hk : (addK ks r).length ≤ ks.length + 1 := adds_len [r] ks
    obtain ⟨bs', t4, e⟩ := puts_loop L last c rs (addK ks r) (putDs (cI ks) bs (r : Int) (.bl true)) (.sh (.int r)) (by omega)
    refine ⟨bs', t4, ?_⟩
    refine loop_cons (δ1 := [.sh L, .sh (.int last), .od (cI ks) bs, .sh (.int c), .sh (.int r)]) (δ2 := [.sh L, .sh (.int last), .od (cI (addK ks r)) (putDs (cI ks) bs (r : Int) (.bl true)), .sh (.int c), .sh (.int r)]) rfl ?_ e
    have := put_any (i := 2) (fk := fVar 4) (fe := fC (.bl true)) (δ := [.sh L, .sh (.int last), .od (cI ks) bs, .sh (.int c), .sh (.int r)]) (ks := cI ks) (ds := bs) (n := (r : Int)) (r := .sh (.bl true)) (d := .bl true) rfl rfl rfl (dt_of rfl) (by unfold cI; rw [List.length_map, line24]; omega) (only2 (s := .un))
    rw [puts_ok] at this
    exact this
theorem inD_of {f : EF} {i : Nat} {δ : List Sl} {ks : List Nat} {n : Nat} (h1 : keysAt i δ = some (cI ks)) (h2 : dt f δ = some (.int (n : Int))) : bInD f i δ = some (decide (n ∈ ks)) := by
  unfold bInD
  rw [h1, Option.bind_some, h2, Option.bind_some]
  show some (decide ((n : Int) ∈ cI ks)) = _
  congr 1
  exact decide_eq_decide.mpr mem_cI
theorem rng3_down (k : Nat) : rng3 ((k + 1 : Nat) : Int) (-1) (k + 1) = .int ((k + 1 : Nat) : Int) :: rng3 (k : Int) (-1) k := by
  unfold rng3
  rw [List.range_succ_eq_map, List.map_cons, List.map_map]
  have h0 : ((k + 1 : Nat) : Int) + ((0 : Nat) : Int) * -1 = ((k + 1 : Nat) : Int) := by omega
  rw [h0]
  refine congrArg (List.cons _) (List.map_congr_left fun j _ => ?_)
  show Dm.int (((k + 1 : Nat) : Int) + ((j + 1 : Nat) : Int) * -1) = Dm.int ((k : Int) + (j : Int) * -1)
  have : ((k + 1 : Nat) : Int) + ((j + 1 : Nat) : Int) * -1 = (k : Int) + (j : Int) * -1 := by omega
  rw [this]
theorem ulen (ps : List Deed) (k : Nat) (ks : List Nat) : (uStep ps k ks).length ≤ ks.length + 2 := by
  unfold uStep
  split
  · have := adds_len (refsAt ps k) ks
    have h : (refsAt ps k).length ≤ 2 := by
      rw [refsAt_d]
      cases dAt ps k <;> simp [refs]
    omega
  · omega
theorem used_loop (ps : List Deed) (last : Nat) : ∀ (k : Nat) (ks : List Nat) (bs : List Dm) (s3 s4 : Sl), k ≤ ps.length → ks.length + 2 * k ≤ 9000 → ∃ bs' t3 t4, loopD (.nm 3) B_used_for_2 (rng3 (k : Int) (-1) k) [.sh (.lst (ps.map enc)), .sh (.int last), .od (cI ks) bs, s3, s4] = some (.nx [.sh (.lst (ps.map enc)), .sh (.int last), .od (cI (uLoop ps k ks)) bs', t3, t4])
  | 0, ks, bs, s3, s4, _, _ => ⟨bs, s3, s4, rfl⟩
  | k + 1, ks, bs, s3, s4, hk, hl => by
    have hlen := ulen ps k ks
    have hd : ps[k]? = some (dAt ps k) := by unfold dAt; rw [List.getElem?_eq_getElem (show k < ps.length by omega)]; rfl
    rw [rng3_down]
    by_cases hm : k + 1 ∈ ks
    · obtain ⟨bs1, t4, e1⟩ := puts_loop (.lst (ps.map enc)) last ((k + 1 : Nat) : Int) (refs (dAt ps k)) ks bs s4 (by have h2 : (refs (dAt ps k)).length ≤ 2 := (by cases dAt ps k <;> simp [refs]); omega)
      obtain ⟨bs', t3', t4', e2⟩ := used_loop ps last k (uStep ps k ks) bs1 (.sh (.int ((k + 1 : Nat) : Int))) t4 (by omega) (by omega)
      refine ⟨bs', t3', t4', ?_⟩
      have eu : uStep ps k ks = (refs (dAt ps k)).foldl addK ks := by unfold uStep; rw [if_pos hm, refsAt_d]
      refine loop_cons (δ1 := [.sh (.lst (ps.map enc)), .sh (.int last), .od (cI ks) bs, .sh (.int ((k + 1 : Nat) : Int)), s4]) (δ2 := [.sh (.lst (ps.map enc)), .sh (.int last), .od (cI (uStep ps k ks)) bs1, .sh (.int ((k + 1 : Nat) : Int)), t4]) rfl (if_t ?_ (for_of (ds := nats (refs (dAt ps k))) ?_ (by rw [eu]; exact e1))) e2
      · rw [inD_of (ks := ks) (n := k + 1) rfl (dt_of rfl), decide_eq_true hm]
      · refine iS_of (r := .ow (nats (refs (dAt ps k)))) (call_of (rs := [.sh (enc (dAt ps k))]) (evs_cons (r := .sh (enc (dAt ps k))) (ix_of (a := .lst (ps.map enc)) (i := (k : Int)) (dt_of rfl) (dt_of (r := .sh (.int (k : Int))) ?_) (atI_nat (by rw [List.getElem?_map, hd]; rfl))) evs_nil) (used_by_ok _) rfl) rfl
        have := subN (a := k + 1) (b := 1) (fa := fVar 3) (fb := fC (.int 1)) (δ := [.sh (.lst (ps.map enc)), .sh (.int last), .od (cI ks) bs, .sh (.int ((k + 1 : Nat) : Int)), s4]) (dt_of rfl) (dt_of rfl) (by omega)
        rw [this, Nat.add_sub_cancel]
    · obtain ⟨bs', t3', t4', e2⟩ := used_loop ps last k (uStep ps k ks) bs (.sh (.int ((k + 1 : Nat) : Int))) s4 (by omega) (by omega)
      refine ⟨bs', t3', t4', ?_⟩
      have eu : uStep ps k ks = ks := by unfold uStep; rw [if_neg hm]
      refine loop_cons (δ1 := [.sh (.lst (ps.map enc)), .sh (.int last), .od (cI ks) bs, .sh (.int ((k + 1 : Nat) : Int)), s4]) rfl (if_f ?_ nil_nx) (by rw [eu] at e2; show _ = some (Fl.nx [_, _, .od (cI (uLoop ps k (uStep ps k ks))) bs', t3', t4']); rw [eu]; exact e2)
      rw [inD_of (ks := ks) (n := k + 1) rfl (dt_of rfl), decide_eq_false hm]
theorem used_for_ok (ps : List Deed) (last : Nat) (hl : last ≤ ps.length) (hp : last ≤ 1000) : ∃ bs, F_used_for [.lst (ps.map enc), .int last] = some (.od (cI (used ps last)) bs) := by
  obtain ⟨bs, t3, t4, e⟩ := used_loop ps last last [last] [.bl true] .un .un hl (by simp; omega)
  have hs : Builtin.Range.rangeSize (last : Int) 0 (-1) = (last : Int) := by
    unfold Builtin.Range.rangeSize
    simp only [show ¬ ((-1 : Int) > 0) by decide, if_false, show (-(-1) : Int) = 1 from rfl, Int.ediv_one]
    split <;> omega
  refine ⟨bs, body_rt (r := Rs.od (cI (used ps last)) bs) (δ := [.sh (.lst (ps.map enc)), .sh (.int last), .un, .un, .un]) rfl rfl (seq_nx (δ' := [.sh (.lst (ps.map enc)), .sh (.int last), .od (cI [last]) [.bl true], .un, .un]) rfl (seq_nx (for_of (ds := rng3 (last : Int) (-1) last) ?_ e) rfl))⟩
  unfold iR3n
  show (if ok3n (last : Int) 0 (-1) = true then some (rng3 (last : Int) (-1) (cnt3 (last : Int) 0 (-1))) else none) = _
  rw [if_pos (show ok3n (last : Int) 0 (-1) = true from okB_of ⟨by decide, by decide, by
    unfold Builtin.Range.small
    rw [hs]
    simp only [Builtin.Range.rangeFitsLong, Bool.and_eq_true, Bool.or_eq_true, decide_eq_true_eq, beq_iff_eq, show ¬ ((-1 : Int) > 0) by decide, if_false]
    omega⟩)]
  unfold cnt3
  rw [hs, Int.toNat_natCast]
theorem rng_up (j n : Nat) : rng (j : Int) (n + 1) = .int (j : Int) :: rng ((j + 1 : Nat) : Int) n := by
  unfold rng
  rw [List.range_succ_eq_map, List.map_cons, List.map_map]
  have h0 : (j : Int) + ((0 : Nat) : Int) = (j : Int) := by omega
  rw [h0]
  refine congrArg (List.cons _) (List.map_congr_left fun i _ => ?_)
  show Dm.int ((j : Int) + ((i + 1 : Nat) : Int)) = Dm.int (((j + 1 : Nat) : Int) + (i : Int))
  have : (j : Int) + ((i + 1 : Nat) : Int) = ((j + 1 : Nat) : Int) + (i : Int) := by omega
  rw [this]
theorem usL_succ (U : List Nat) (j n : Nat) : usL U j (n + 1) = if j ∈ U then j :: usL U (j + 1) n else usL U (j + 1) n := by
  unfold usL
  rw [List.range'_succ, List.filter_cons]
  by_cases h : j ∈ U <;> simp [h]
theorem look_pos : ∀ {gs : List Nat} {k a : Nat}, a ∈ gs → lookD (cI gs) (nats (List.range' k gs.length)) (a : Int) = some (.int ((k + gs.idxOf a : Nat) : Int))
  | [], k, a, h => by cases h
  | g :: gs, k, a, h => by
    rw [List.length_cons, List.range'_succ]
    show (if (g : Int) = (a : Int) then some (Dm.int (k : Nat)) else lookD (cI gs) (nats (List.range' (k + 1) gs.length)) (a : Int)) = _
    by_cases e : g = a
    · subst e
      rw [if_pos rfl, List.idxOf_cons_self]; rfl
    · rw [if_neg (show ¬ (g : Int) = (a : Int) by omega)]
      have hm : a ∈ gs := (List.mem_cons.mp h).elim (fun z => absurd z.symm e) id
      rw [look_pos hm, List.idxOf_cons]
      have : (g == a) = false := by simpa using e
      rw [this]
      congr 2
      simp
      omega
theorem only4 {a b c : Dm} {ks : List Int} {ds es : List Dm} {d : Dm} : onlyD 4 [.sh a, .sh b, .sh c, .ow es, .od ks ds, .sh d] := only_at fun j s hj hne => by
  match j, hj with
  | 0, h => cases h; exact .inl rfl
  | 1, h => cases h; exact .inl rfl
  | 2, h => cases h; exact .inl rfl
  | 3, h => cases h; exact .inr ⟨_, rfl⟩
  | 4, _ => exact absurd rfl hne
  | 5, h => cases h; exact .inl rfl
  | n + 6, h => cases h
theorem callD_of {F : FD} {f : EF} {i : Nat} {δ : List Sl} {ks : List Int} {ds : List Dm} {d0 d1 : Dm} (h1 : δ[i]? = some (.od ks ds)) (h2 : f δ = some (.sh d0)) (h3 : F [d0, .dct ks ds] = some (.sh d1)) (h4 : d1.flat = true) : fCallD F f i δ = some (.sh d1) := by
  unfold fCallD
  rw [h1]
  show (fz f δ).bind _ = _
  rw [fz_some h2, Option.bind_some]
  show (if true = true then (match F [d0, .dct ks ds] with | some (.sh d) => if d.flat then some (Rs.sh d) else none | _ => none) else none) = _
  rw [if_pos rfl, h3]
  show (if d1.flat then some (Rs.sh d1) else none) = _
  rw [if_pos h4]
theorem flat_enc (d : Deed) : (enc d).flat = true := by cases d <;> rfl
theorem kept_loop {ps : List Deed} (ah : Ahead ps) {last : Nat} (hl : last ≤ ps.length) (hp : last ≤ 1000) (B : List Dm) : ∀ (n j : Nat) (us1 : List Nat) (s5 : Sl), 1 ≤ j → j + n = last + 1 → usL (used ps last) 1 last = us1 ++ usL (used ps last) j n → us1.length < j →
    ∃ gs hs t5, loopD (.nm 5) B_only_used_1 (rng (j : Int) n) [.sh (.lst (ps.map enc)), .sh (.int last), .sh (.dct (cI (used ps last)) B), .ow (us1.map fun u => enc (renD (pos (usL (used ps last) 1 last)) (dAt ps (u - 1)))), .od (cI (0 :: us1)) (nats (List.range' 0 (0 :: us1).length)), s5] =
      some (.nx [.sh (.lst (ps.map enc)), .sh (.int last), .sh (.dct (cI (used ps last)) B), .ow ((kept ps last).map enc), .od gs hs, t5])
  | 0, j, us1, s5, h1, hj, e, hu => by
    have e' : usL (used ps last) 1 last = us1 := by rw [e]; unfold usL; simp
    refine ⟨cI (0 :: us1), nats (List.range' 0 (0 :: us1).length), s5, ?_⟩
    have ek : (kept ps last).map enc = us1.map fun u => enc (renD (pos (usL (used ps last) 1 last)) (dAt ps (u - 1))) := by
      unfold kept
      rw [List.map_map, e']
      rfl
    rw [ek]
    rfl
  | n + 1, j, us1, s5, h1, hj, e, hu => by
    rw [rng_up]
    rw [usL_succ] at e
    by_cases hm : j ∈ used ps last
    · rw [if_pos hm] at e
      have hr := refs_kept ah e
      obtain ⟨gs, hs, t5, e2⟩ := kept_loop ah hl hp B n (j + 1) (us1 ++ [j]) (.sh (.int (j : Int))) (by omega) (by omega) (by rw [e, List.append_assoc]; rfl) (by rw [List.length_append]; simp; omega)
      refine ⟨gs, hs, t5, ?_⟩
      have hlt : j - 1 < ps.length := by omega
      have hd : ps[j - 1]? = some (dAt ps (j - 1)) := by unfold dAt; rw [List.getElem?_eq_getElem hlt]; rfl
      have hren : F_renumbered [enc (dAt ps (j - 1)), .dct (cI (0 :: us1)) (nats (List.range' 0 (0 :: us1).length))] = some (.sh (enc (renD (pos (usL (used ps last) 1 last)) (dAt ps (j - 1))))) := by
        refine ren_ok _ _ _ fun a ha => ?_
        have h3 : pos (usL (used ps last) 1 last) a = 0 + (0 :: us1).idxOf a := by rw [e, pos_app (hr a ha), Nat.zero_add]; rfl
        rw [h3]
        exact look_dct (look_pos (hr a ha))
      refine loop_cons (δ1 := [.sh (.lst (ps.map enc)), .sh (.int last), .sh (.dct (cI (used ps last)) B), .ow (us1.map fun u => enc (renD (pos (usL (used ps last) 1 last)) (dAt ps (u - 1)))), .od (cI (0 :: us1)) (nats (List.range' 0 (0 :: us1).length)), .sh (.int (j : Int))]) rfl (if_t ?_ (seq_nx (app_of (ds := us1.map fun u => enc (renD (pos (usL (used ps last) 1 last)) (dAt ps (u - 1)))) (r := .sh (enc (renD (pos (usL (used ps last) 1 last)) (dAt ps (j - 1))))) rfl (callD_of (ks := cI (0 :: us1)) (ds := nats (List.range' 0 (0 :: us1).length)) rfl (ix_of (a := .lst (ps.map enc)) (i := ((j - 1 : Nat) : Int)) (dt_of rfl) (dt_of (subN (a := j) (b := 1) (dt_of rfl) (dt_of rfl) h1)) (atI_nat (by rw [List.getElem?_map, hd]; rfl))) hren (flat_enc _)) rfl (by rw [List.length_map, line24]; omega)) (put_any (ks := cI (0 :: us1)) (ds := nats (List.range' 0 (0 :: us1).length)) (n := (j : Int)) (r := .sh (.int ((us1.length + 1 : Nat) : Int))) (d := .int ((us1.length + 1 : Nat) : Int)) rfl (fB_of (rs := [.al 3 (us1.map (fun u => enc (renD (pos (usL (used ps last) 1 last)) (dAt ps (u - 1)))) ++ [enc (renD (pos (usL (used ps last) 1 last)) (dAt ps (j - 1)))])]) rfl (by simp [oLen, Rs.dat])) rfl (dt_of rfl) (by unfold cI; rw [List.length_map, List.length_cons, line24]; omega) only4))) ?_
      · rw [inD_of (ks := used ps last) (n := j) rfl (dt_of rfl), decide_eq_true hm]
      · have hnot : ¬ ((j : Int) ∈ cI (0 :: us1)) := fun z => by
          have z' := mem_cI.mp z
          rcases List.mem_cons.mp z' with z' | z'
          · omega
          · have srt : (usL (used ps last) 1 last).Pairwise (· < ·) := List.Pairwise.filter _ (List.pairwise_lt_range' (s := 1) (n := last))
            rw [e] at srt
            have := (List.pairwise_append.mp srt).2.2 j z' j (List.mem_cons_self)
            omega
        have ek : putKs (cI (0 :: us1)) (j : Int) = cI (0 :: (us1 ++ [j])) := by
          unfold putKs
          rw [if_neg hnot]
          unfold cI
          rw [← List.cons_append, List.map_append]; rfl
        have ev : putDs (cI (0 :: us1)) (nats (List.range' 0 (0 :: us1).length)) (j : Int) (.int ((us1.length + 1 : Nat) : Int)) = nats (List.range' 0 (0 :: (us1 ++ [j])).length) := by
          unfold putDs
          rw [if_neg hnot]
          have : (0 :: (us1 ++ [j])).length = (0 :: us1).length + 1 := by simp
          rw [this, List.range'_concat, nats_app]
          congr 1
          simp [nats]
        rw [List.map_append] at e2
        rw [ek, ev]
        exact e2
    · rw [if_neg hm] at e
      obtain ⟨gs, hs, t5, e2⟩ := kept_loop ah hl hp B n (j + 1) us1 (.sh (.int (j : Int))) (by omega) (by omega) e (by omega)
      refine ⟨gs, hs, t5, ?_⟩
      refine loop_cons (δ1 := [.sh (.lst (ps.map enc)), .sh (.int last), .sh (.dct (cI (used ps last)) B), .ow (us1.map fun u => enc (renD (pos (usL (used ps last) 1 last)) (dAt ps (u - 1)))), .od (cI (0 :: us1)) (nats (List.range' 0 (0 :: us1).length)), .sh (.int (j : Int))]) rfl (if_f ?_ nil_nx) e2
      rw [inD_of (ks := used ps last) (n := j) rfl (dt_of rfl), decide_eq_false hm]
theorem iR2_of {f g : EF} {δ : List Sl} {i : Int} {j : Int} {n : Nat} (h1 : dt f δ = some (.int i)) (h2 : dt g δ = some (.int j)) (h3 : (j - i).toNat = n) (o1 : okR i = true) (o2 : okR j = true) : iR2 f g δ = some (rng i n) := by
  unfold iR2
  rw [h1, Option.bind_some]
  show ((dt g δ).bind fun d => d.int?.bind fun j => if okR i && okR j then some (rng i (j - i).toNat) else none) = _
  rw [h2, Option.bind_some]
  show (if (okR i && okR j) = true then some (rng i (j - i).toNat) else none) = _
  rw [o1, o2, Bool.and_self, if_pos rfl, h3]
theorem zip_ez : ∀ (as : List Deed) (bs : List (List Nat)), zipD (as.map enc) (bs.map tupN) = (as.zip bs).map fun p => Dm.tup [enc p.1, tupN p.2]
  | [], bs => by simp [zipD]
  | a :: as, [] => by simp [zipD]
  | a :: as, b :: bs => by
    show Dm.tup [enc a, tupN b] :: zipD (as.map enc) (bs.map tupN) = _
    rw [zip_ez as bs]; rfl
theorem only_used_ok {ps : List Deed} (ah : Ahead ps) {last : Nat} (hl : last ≤ ps.length) (hp : last ≤ 1000) : F_only_used [.lst (ps.map enc), .int last] = some (.ow ((kept ps last).map enc)) := by
  obtain ⟨B, hB⟩ := used_for_ok ps last hl hp
  obtain ⟨gs, hs, t5, e⟩ := kept_loop ah hl hp B last 1 [] .un (by omega) (by omega) rfl (by simp)
  refine body_rt (r := (Rs.al 3 ((kept ps last).map enc)).out) (δ := [.sh (.lst (ps.map enc)), .sh (.int last), .un, .un, .un, .un]) rfl rfl (seq_nx (set_fz (r := .od (cI (used ps last)) B) (call_of (rs := [.sh (.lst (ps.map enc)), .sh (.int last)]) rfl hB rfl) rfl) (seq_nx (set_ow (d := []) (by simp [bodyD, gRet, gSeq, gIf, gSet, gApp, BF.gNil, gFrz, frz, op2, dt, fVar, fC, evs, fTup, fLst, fCall, fB, fIx, ixD, fSl, slD, pNo, pSome, fz, own?, bB, bAnd, bOr, bNot, vAnd, vOr, vNot, fIsi, fList, fNeg, fCat, fRep, oAdd, oSub, oMul, oDiv, oMod, oPow, oShl, oShr, oAnd, oOr, oXor, oLt, oLe, oGt, oGe, oMin, oLen, oSum, line24])) (seq_nx (δ' := [.sh (.lst (ps.map enc)), .sh (.int last), .sh (.dct (cI (used ps last)) B), .ow [], .od (cI [0]) (nats (List.range' 0 1)), .un]) rfl (seq_nx (for_of (ds := rng ((1 : Nat) : Int) last) ?_ e) (ret_of rfl)))))
  have := addN (a := last) (b := 1) (fa := fVar 1) (fb := fC (.int 1)) (δ := [.sh (.lst (ps.map enc)), .sh (.int last), .sh (.dct (cI (used ps last)) B), .ow [], .od (cI [0]) (nats (List.range' 0 1)), .un]) (dt_of rfl) (dt_of rfl)
  exact iR2_of (i := 1) (n := last) (dt_of rfl) (dt_of this) (by omega) (okR_nat (n := 1) (by omega)) (okR_nat (by omega))
theorem mks_len (w : Nat) (ds : List Deed) : (mks w ds).length = ds.length + 1 := by unfold mks; simp
theorem fewer_ok (w : Nat) (h1 : 1 ≤ w) (hw : w ≤ 64) (ds : List Deed) (hg : GoodRow w ds) (hl : ds.length ≤ 400) : F_fewer [.int w, .lst (ds.map enc)] = some (.ow ((fewD w ds).map enc)) := by
  have hfs : ∀ a, a ≤ ds.length → ((mks w ds).map fun m => (mks w ds).idxOf m).getD a 0 = fst w ds a := fun a ha => by
    rw [List.getD_eq_getElem?_getD, List.getElem?_map, mks_at ha]; rfl
  have hll : ((mks w ds).map fun m => (mks w ds).idxOf m).length = ds.length + 1 := by rw [List.length_map, mks_len]
  refine body_rt (r := (Rs.ow ((fewD w ds).map enc)).out) (δ := [.sh (.int w), .sh (.lst (ds.map enc)), .un, .un, .un]) rfl rfl (seq_nx (set_fz (r := .ow ((mks w ds).map tupN)) (call_of (rs := [.sh (.int w), .sh (.lst (ds.map enc))]) rfl (marks_of_ok w h1 hw ds hg hl) rfl) rfl) (seq_nx (set_fz (r := .ow (nats ((mks w ds).map fun m => (mks w ds).idxOf m))) (call_of (rs := [.sh (.lst ((mks w ds).map tupN))]) rfl (firsts_ok (mks w ds) (by rw [mks_len]; omega)) rfl) rfl) (seq_nx (set_fz (r := .ow ((plains w ds).map enc)) ?_ rfl) (ret_of (call_of (rs := [.sh (.lst ((plains w ds).map enc)), .sh (.int (fst w ds ds.length : Nat))]) (evs_cons (r := .sh (.lst ((plains w ds).map enc))) rfl (evs_cons (r := .sh (.int (fst w ds ds.length : Nat))) ?_ evs_nil)) (only_used_ok (plains_ahead hg) (by rw [plains_len]; exact fst_le (Nat.le_refl _)) (Nat.le_trans (fst_le (Nat.le_refl _)) (by omega))) rfl)))))
  · have ez := zip_ez
    have hsl : fSl (fVar 2) (pSome (fC (.int 1))) pNo [.sh (.int w), .sh (.lst (ds.map enc)), .sh (.lst ((mks w ds).map tupN)), .sh (.lst (nats ((mks w ds).map fun m => (mks w ds).idxOf m))), .un] = some (.ow (((mks w ds).drop 1).map tupN)) := by
      rw [sl_of (xs := (mks w ds).map tupN) (l := some ((1 : Nat) : Int)) (u := none) (dt_of rfl) rfl rfl, cut_from, List.map_drop]
    have ep : (plains w ds).map enc = (ds.zip ((mks w ds).drop 1)).map fun p => enc (plainP (fst w ds) p.1 p.2) := by unfold plains; rw [List.map_map]; rfl
    have hlz : (ds.zip ((mks w ds).drop 1)).length ≤ ds.length := by rw [List.length_zip]; omega
    rw [ep]
    refine comp_of (ds := (ds.zip ((mks w ds).drop 1)).map fun p => Dm.tup [enc p.1, tupN p.2]) (by rw [← ez]; exact iZ_of (r := .sh (.lst (ds.map enc))) rfl rfl hsl rfl) (by rw [List.length_map, line24]; omega) (mapD_map (fun p : Deed × List Nat => Dm.tup [enc p.1, tupN p.2]) (fun p => enc (plainP (fst w ds) p.1 p.2)) fun p hp => ⟨_, rfl, .sh (enc (plainP (fst w ds) p.1 p.2)), ?_, rfl⟩)
    obtain ⟨i, hi⟩ := List.mem_iff_getElem?.mp hp
    obtain ⟨hd, hm⟩ := List.getElem?_zip_eq_some.mp hi
    have hil : i < ds.length := (List.getElem?_eq_some_iff.mp hd).1
    have gd := hg i p.1 hd
    have em : p.2 = mk w ds (i + 1) := by
      rw [List.getElem?_drop, Nat.add_comm, mks_at (by omega)] at hm
      exact (Option.some.inj hm).symm
    have hml : p.2.length = w + 1 := by rw [em]; unfold mk wds; simp
    have hpl := plain_of_ok p.1 p.2 ((mks w ds).map fun m => (mks w ds).idxOf m) (by omega) (by omega) (fun a ha => by have := refs_lt gd a ha; omega)
    have e2 : plainP (fun a => ((mks w ds).map fun m => (mks w ds).idxOf m).getD a 0) p.1 p.2 = plainP (fst w ds) p.1 p.2 := by
      unfold plainP
      by_cases hc : ∀ y ∈ p.2, y = p.2.getD 0 0
      · rw [if_pos hc, if_pos hc]
      · rw [if_neg hc, if_neg hc]
        have hr : ∀ a ∈ refs p.1, ((mks w ds).map fun m => (mks w ds).idxOf m).getD a 0 = fst w ds a := fun a ha => hfs a (by have := refs_lt gd a ha; omega)
        revert hr
        cases p.1 <;> intro hr <;> simp only [renD]
        · rw [hr _ (by simp [refs])]
        · rw [hr _ (by simp [refs])]
        · rw [hr _ (by simp [refs]), hr _ (by simp [refs])]
        · rw [hr _ (by simp [refs])]
        · rw [hr _ (by simp [refs])]
    rw [e2] at hpl
    exact call_of (rs := [.sh (enc p.1), .sh (tupN p.2), .sh (.lst (nats ((mks w ds).map fun m => (mks w ds).idxOf m)))]) rfl hpl rfl
  · refine ix_of (a := .lst (nats ((mks w ds).map fun m => (mks w ds).idxOf m))) (i := -1) (dt_of rfl) (dt_of (neg_of (dt_of rfl))) ?_
    have hne : ((mks w ds).map fun m => (mks w ds).idxOf m) ≠ [] := fun z => by rw [z] at hll; simp at hll
    show atI (nats ((mks w ds).map fun m => (mks w ds).idxOf m)) (-1) = _
    rw [nats_last hne, last_getD, hll, Nat.add_sub_cancel, hfs _ (Nat.le_refl _)]
end LW
set_option Elab.async false
set_option linter.all false
set_option maxRecDepth 100000
set_option maxHeartbeats 4000000
namespace LW
open PySem L2 BF
set_option linter.unusedSimpArgs false
theorem mulR {a b : Nat} {fa fb : EF} {δ : List Sl} (h1 : dt fa δ = some (.int a)) (h2 : dt fb δ = some (.int b)) (h : b < 2 ^ 64) : op2 oMul fa fb δ = some (.sh (.int (a * b : Nat))) := op2_of h1 h2 (by show oI _ _ _ _ = _; rw [oI_int, if_pos (mulOk_right (by omega) (by omega))]; push_cast; rfl)
theorem big_ok (c : Int) (k : Nat) (hk : k ≤ 1000) : ∃ N : Nat, F__law_big [.int c, .int k] = some (.sh (.int N)) := by
  have p : powOk 10 40 = true := powOk_of (by decide) (by decide) (by decide)
  have hp : op2 oPow (fC (.int 10)) (fC (.int 40)) = fun _ : List Sl => some (.sh (.int (10 ^ 40))) := by
    funext δ
    exact op2_of (a := .int 10) (b := .int 40) (dt_of rfl) (dt_of rfl) (by show oI _ _ _ _ = _; rw [oI_int, if_pos p]; rfl)
  by_cases hc : (10 : Int) ^ 40 ≤ c
  · obtain ⟨N, hN⟩ := Int.eq_ofNat_of_zero_le (show 0 ≤ c - 10 ^ 40 by omega)
    refine ⟨N, body_rt (r := (Rs.sh (.int N)).out) (δ := [.sh (.int c), .sh (.int k), .un]) rfl rfl (seq_rt (if_t (bB_of (dt_of (op2_of (a := .int c) (b := .int (10 ^ 40)) (d := .bl true) (dt_of rfl) (dt_of (r := .sh (.int (10 ^ 40))) (by rw [hp])) ?_))) (ret_of (op2_of (a := .int c) (b := .int (10 ^ 40)) (dt_of rfl) (dt_of (r := .sh (.int (10 ^ 40))) (by rw [hp])) ?_))))⟩
    · show oI _ _ _ _ = _
      rw [oI_int, if_pos rfl, decide_eq_true hc]
    · show oI _ _ _ _ = _
      rw [oI_int, if_pos rfl, hN]
  · obtain ⟨a, ea, la⟩ := mixed2_ok c k (by omega)
    obtain ⟨b, eb, lb⟩ := mixed2_ok c (k + 101) (by omega)
    obtain ⟨d, ed, ld⟩ := mixed2_ok c (k + 211) (by omega)
    obtain ⟨e, ee, le⟩ := mixed2_ok c (k + 307) (by omega)
    refine ⟨((a * 2147483629 + b) * 2147483587 + d) * 2147483579 + e, body_rt (r := (Rs.sh (.int ((((a * 2147483629 + b) * 2147483587 + d) * 2147483579 + e : Nat) : Int))).out) (δ := [.sh (.int c), .sh (.int k), .un]) rfl rfl (seq_nx (if_f (bB_of (dt_of (op2_of (a := .int c) (b := .int (10 ^ 40)) (d := .bl false) (dt_of rfl) (dt_of (r := .sh (.int (10 ^ 40))) (by rw [hp])) ?_))) nil_nx) (seq_nx (set_sh (d := .int ((a * 2147483629 + b : Nat) : Int)) (addN (dt_of (mulR (a := a) (b := 2147483629) (dt_of (call_of (rs := [.sh (.int c), .sh (.int k)]) rfl ea rfl)) (dt_of rfl) (by decide))) (dt_of (call_of (rs := [.sh (.int c), .sh (.int ((k + 101 : Nat) : Int))]) (evs_cons (r := .sh (.int c)) rfl (evs_cons (r := .sh (.int ((k + 101 : Nat) : Int))) (addN (b := 101) (dt_of rfl) (dt_of rfl)) evs_nil)) eb rfl)))) (seq_nx (set_sh (d := .int (((a * 2147483629 + b) * 2147483587 + d : Nat) : Int)) (addN (dt_of (mulR (b := 2147483587) (dt_of rfl) (dt_of rfl) (by decide))) (dt_of (call_of (rs := [.sh (.int c), .sh (.int ((k + 211 : Nat) : Int))]) (evs_cons (r := .sh (.int c)) rfl (evs_cons (r := .sh (.int ((k + 211 : Nat) : Int))) (addN (b := 211) (dt_of rfl) (dt_of rfl)) evs_nil)) ed rfl)))) (ret_of (addN (dt_of (mulR (b := 2147483579) (dt_of rfl) (dt_of rfl) (by decide))) (dt_of (call_of (rs := [.sh (.int c), .sh (.int ((k + 307 : Nat) : Int))]) (evs_cons (r := .sh (.int c)) rfl (evs_cons (r := .sh (.int ((k + 307 : Nat) : Int))) (addN (b := 307) (dt_of rfl) (dt_of rfl)) evs_nil)) ee rfl)))))))⟩
    show oI _ _ _ _ = _
    rw [oI_int, if_pos rfl, decide_eq_false hc]
theorem deed2_ok (N w many : Nat) (hw : 1 ≤ w) (hw2 : w ≤ 64) (hm : 1 ≤ many) (hm2 : many ≤ 1000) : ∃ dd, Good w many dd ∧ F__law_deed [.int N, .int w, .int many] = some (.sh (enc dd)) := by
  generalize hone : many - 1 - N / 24 % ([many, min many 4].getD (N / 12 % 2) 0) = one
  have hy : 1 ≤ [many, min many 4].getD (N / 12 % 2) 0 ∧ [many, min many 4].getD (N / 12 % 2) 0 ≤ many := by
    rcases (show N / 12 % 2 = 0 ∨ N / 12 % 2 = 1 by omega) with e | e <;> rw [e]
    · exact ⟨hm, Nat.le_refl _⟩
    · show 1 ≤ min many 4 ∧ min many 4 ≤ many
      omega
  generalize hY : [many, min many 4].getD (N / 12 % 2) 0 = Y at hone hy
  have hmod := Nat.mod_lt (N / 24) (show 0 < Y by omega)
  have ho : one < many := by omega
  generalize hrest : N / 24576 = rest
  have hway : N % 12 < 12 := Nat.mod_lt _ (by decide)
  have pre : ∀ (g : SF) (r : Rs), g [.sh (.int N), .sh (.int w), .sh (.int many), .sh (.int (N % 12 : Nat)), .sh (.int one), .sh (.int rest), .un, .un] = some (.rt r) →
      (gSeq (gSet 3 (op2 oMod (fVar 0) (fC (.int 12))))
      (gSeq (gSet 4 (op2 oSub (op2 oSub (fVar 2) (fC (.int 1))) (op2 oMod (op2 oDiv (fVar 0) (fC (.int 24))) (fIx (fLst [(fVar 2), (fB oMin [(fVar 2), (fC (.int 4))])]) (op2 oMod (op2 oDiv (fVar 0) (fC (.int 12))) (fC (.int 2)))))))
      (gSeq (gSet 5 (op2 oDiv (fVar 0) (fC (.int 24576)))) g))) [.sh (.int N), .sh (.int w), .sh (.int many), .un, .un, .un, .un, .un] = some (.rt r) := fun g r h => by
    refine seq_nx (set_sh (d := .int (N % 12 : Nat)) (modN (b := 12) (dt_of rfl) (dt_of rfl) (by decide))) (seq_nx (set_sh (d := .int (one : Nat)) ?_) (seq_nx (set_sh (d := .int (rest : Nat)) ?_) h))
    · rw [← hone]
      refine subN (a := many - 1) (b := N / 24 % Y) (dt_of (subN (b := 1) (dt_of rfl) (dt_of rfl) hm)) (dt_of (modN (dt_of (divN (b := 24) (dt_of rfl) (dt_of rfl) (by decide) (by decide))) (dt_of (r := .sh (.int (Y : Nat))) ?_) (by omega))) (by omega)
      rw [← hY]
      refine ix_of (a := .lst (nats [many, min many 4])) (i := ((N / 12 % 2 : Nat) : Int)) (dt_of (r := .ow (nats [many, min many 4])) (lst_of (rs := [.sh (.int many), .sh (.int ((min many 4 : Nat) : Int))]) (evs_cons (r := .sh (.int many)) rfl (evs_cons (r := .sh (.int ((min many 4 : Nat) : Int))) (fB_of (rs := [.sh (.int many), .sh (.int 4)]) rfl ?_) evs_nil)) rfl (by rw [line24]; simp))) (dt_of (modN (b := 2) (dt_of (divN (b := 12) (dt_of rfl) (dt_of rfl) (by decide) (by decide))) (dt_of rfl) (by decide))) (at_nats (by show N / 12 % 2 < 2; omega))
      show some (Dm.int (if (4 : Int) < (many : Int) then 4 else (many : Int))) = _
      by_cases h4 : 4 < many
      · rw [if_pos (by omega), show min many 4 = 4 by omega]; rfl
      · rw [if_neg (by omega), show min many 4 = many by omega]
    · rw [← hrest]
      exact divN (b := 24576) (dt_of rfl) (dt_of rfl) (by decide) (by decide)
  by_cases h5 : N % 12 < 5
  ·
    have q : ∀ n : Nat, ∃ x : Int, atI [Dm.int ((n : Int) / 8), .int ((n : Int) / 8), .int 0, .int (-1), .int ((n : Int) / 8 % 16), .int (-2 - (n : Int) / 8 % 16), .int (2 ^ ((n : Int) / 8 % w).toNat), .int ((n : Int) / 8)] ((n : Int) % 8) = some (.int x) := fun n => by
      have := Int.emod_nonneg (n : Int) (show (8 : Int) ≠ 0 by decide)
      have := Int.emod_lt_of_pos (n : Int) (show (0 : Int) < 8 by decide)
      rcases (show (n : Int) % 8 = 0 ∨ (n : Int) % 8 = 1 ∨ (n : Int) % 8 = 2 ∨ (n : Int) % 8 = 3 ∨ (n : Int) % 8 = 4 ∨ (n : Int) % 8 = 5 ∨ (n : Int) % 8 = 6 ∨ (n : Int) % 8 = 7 by omega) with e | e | e | e | e | e | e | e <;> rw [e]
      · exact ⟨_, atI_nat (j := 0) rfl⟩
      · exact ⟨_, atI_nat (j := 1) rfl⟩
      · exact ⟨_, atI_nat (j := 2) rfl⟩
      · exact ⟨_, atI_nat (j := 3) rfl⟩
      · exact ⟨_, atI_nat (j := 4) rfl⟩
      · exact ⟨_, atI_nat (j := 5) rfl⟩
      · exact ⟨_, atI_nat (j := 6) rfl⟩
      · exact ⟨_, atI_nat (j := 7) rfl⟩
    obtain ⟨y, ey⟩ := q rest
    obtain ⟨x, hx⟩ := Int.eq_ofNat_of_zero_le (Int.emod_nonneg y (Int.ne_of_gt (pow2_pos w)))
    have hx2 := Int.emod_lt_of_pos y (pow2_pos w)
    rw [hx] at hx2
    have hxl : x < 2 ^ w := by exact_mod_cast hx2
    have p1 : posOk (w : Int) = true := posOk_of (by omega)
    have p2 : powOk 1 ((rest : Int) / 8 % (w : Int)) = true := by
      have := Int.emod_nonneg ((rest : Int) / 8) (show (w : Int) ≠ 0 by omega)
      have := Int.emod_lt_of_pos ((rest : Int) / 8) (show (0 : Int) < (w : Int) by omega)
      exact powOk_one (by omega) (by omega)
    have p3 : powOk 1 (w : Int) = true := powOk_one (by omega) (by omega)
    have d8 : divOk 8 = true := divOk_small (by decide) (by decide)
    have m16 : posOk 16 = true := posOk_of (by decide)
    have m8 : posOk 8 = true := posOk_of (by decide)
    have p4 : posOk ((2 : Int) ^ w) = true := posOk_of (pow2_pos w)
    have hset : ∀ δ : List Sl, δ = [.sh (.int N), .sh (.int w), .sh (.int many), .sh (.int (N % 12 : Nat)), .sh (.int one), .sh (.int rest), .un, .un] → fLst [(op2 oDiv (fVar 5) (fC (.int 8))), (op2 oDiv (fVar 5) (fC (.int 8))), (fC (.int 0)), (fNeg (fC (.int 1))), (op2 oMod (op2 oDiv (fVar 5) (fC (.int 8))) (fC (.int 16))), (op2 oSub (fNeg (fC (.int 2))) (op2 oMod (op2 oDiv (fVar 5) (fC (.int 8))) (fC (.int 16)))), (op2 oShl (fC (.int 1)) (op2 oMod (op2 oDiv (fVar 5) (fC (.int 8))) (fVar 1))), (op2 oDiv (fVar 5) (fC (.int 8)))] δ = some (.ow [Dm.int ((rest : Int) / 8), .int ((rest : Int) / 8), .int 0, .int (-1), .int ((rest : Int) / 8 % 16), .int (-2 - (rest : Int) / 8 % 16), .int (2 ^ ((rest : Int) / 8 % w).toNat), .int ((rest : Int) / 8)]) := fun δ hδ => by
      subst hδ
      simp [bodyD, gRet, gSeq, gIf, gSet, gApp, BF.gNil, gFrz, frz, op2, dt, fVar, fC, evs, fTup, fLst, fCall, fB, fIx, ixD, fSl, slD, pNo, pSome, fz, own?, bB, bAnd, bOr, bNot, vAnd, vOr, vNot, fIsi, fList, fNeg, fCat, fRep, oAdd, oSub, oMul, oDiv, oMod, oPow, oShl, oShr, oAnd, oOr, oXor, oLt, oLe, oGt, oGe, oMin, oLen, oSum, p1, p2, d8, m16, line24]
    have hword : ∀ δ : List Sl, δ = [.sh (.int N), .sh (.int w), .sh (.int many), .sh (.int (N % 12 : Nat)), .sh (.int one), .sh (.int rest), .sh (.lst [Dm.int ((rest : Int) / 8), .int ((rest : Int) / 8), .int 0, .int (-1), .int ((rest : Int) / 8 % 16), .int (-2 - (rest : Int) / 8 % 16), .int (2 ^ ((rest : Int) / 8 % w).toNat), .int ((rest : Int) / 8)]), .un] → op2 oMod (fIx (fVar 6) (op2 oMod (fVar 5) (fC (.int 8)))) (op2 oShl (fC (.int 1)) (fVar 1)) δ = some (.sh (.int (x : Nat))) := fun δ hδ => by
      subst hδ
      refine op2_of (a := .int y) (b := .int (2 ^ w)) (dt_of (ix_of (a := .lst [Dm.int ((rest : Int) / 8), .int ((rest : Int) / 8), .int 0, .int (-1), .int ((rest : Int) / 8 % 16), .int (-2 - (rest : Int) / 8 % 16), .int (2 ^ ((rest : Int) / 8 % w).toNat), .int ((rest : Int) / 8)]) (d := .int y) (i := (rest : Int) % 8) (dt_of rfl) (dt_of (op2_of (a := .int rest) (b := .int 8) (dt_of rfl) (dt_of rfl) (by show oI _ _ _ _ = _; rw [oI_int, if_pos m8]))) ey)) (dt_of (op2_of (a := .int 1) (b := .int w) (d := .int (2 ^ w)) (dt_of rfl) (dt_of rfl) (by show oI _ _ _ _ = _; rw [oI_int, if_pos p3]; simp))) (by show oI _ _ _ _ = _; rw [oI_int, if_pos p4, hx])
    have fin : ∀ (dd : Deed) (j : Nat), (N % 12 + 1) / 2 = j → ([.fix x, .mask one x, .turn one x] : List Deed)[j]? = some dd → F__law_deed [.int N, .int w, .int many] = some (.sh (enc dd)) := fun dd j hj hdd => by
      refine body_rt (r := (Rs.sh (enc dd)).out) (δ := [.sh (.int N), .sh (.int w), .sh (.int many), .un, .un, .un, .un, .un]) rfl rfl (pre _ _ (seq_rt (if_t (ltN (b := 5) (dt_of rfl) (dt_of rfl) (decide_eq_true h5)) (seq_nx (set_fz (r := .ow _) (hset _ rfl) rfl) (seq_nx (set_sh (hword _ rfl)) (ret_of (ix_of (a := .lst [enc (.fix x), enc (.mask one x), enc (.turn one x)]) (i := (j : Int)) (dt_of (r := .ow [enc (.fix x), enc (.mask one x), enc (.turn one x)]) (lst_of (rs := [.sh (enc (.fix x)), .sh (enc (.mask one x)), .sh (enc (.turn one x))]) (evs_cons (r := .sh (enc (.fix x))) (tup_of (rs := [.sh (.str "fix"), .sh (.int x)]) rfl rfl (by rw [line24]; simp)) (evs_cons (r := .sh (enc (.mask one x))) (tup_of (rs := [.sh (.str "mask"), .sh (.int one), .sh (.int x)]) rfl rfl (by rw [line24]; simp)) (evs_cons (r := .sh (enc (.turn one x))) (tup_of (rs := [.sh (.str "turn"), .sh (.int one), .sh (.int x)]) rfl rfl (by rw [line24]; simp)) evs_nil))) rfl (by rw [line24]; simp))) (dt_of (r := .sh (.int (j : Int))) (by rw [← hj]; exact divN (b := 2) (dt_of (addN (b := 1) (dt_of rfl) (dt_of rfl))) (dt_of rfl) (by decide) (by decide))) (atI_nat (by
        have : ([enc (.fix x), enc (.mask one x), enc (.turn one x)] : List Dm) = ([.fix x, .mask one x, .turn one x] : List Deed).map enc := rfl
        rw [this, List.getElem?_map, hdd]; rfl)))))))))
    rcases (show (N % 12 + 1) / 2 = 0 ∨ (N % 12 + 1) / 2 = 1 ∨ (N % 12 + 1) / 2 = 2 by omega) with e | e | e
    · exact ⟨.fix x, hxl, fin _ 0 e rfl⟩
    · exact ⟨.mask one x, ⟨ho, hxl⟩, fin _ 1 e rfl⟩
    · exact ⟨.turn one x, ⟨ho, hxl⟩, fin _ 2 e rfl⟩
  · by_cases h8 : N % 12 < 8
    · refine ⟨.both one (rest % many), ⟨ho, Nat.mod_lt _ (by omega)⟩, ?_⟩
      exact body_rt (r := (Rs.sh (enc (.both one (rest % many)))).out) (δ := [.sh (.int N), .sh (.int w), .sh (.int many), .un, .un, .un, .un, .un]) rfl rfl (pre _ _ (seq_nx (if_f (ltN (b := 5) (dt_of rfl) (dt_of rfl) (decide_eq_false h5)) nil_nx) (seq_rt (if_t (ltN (b := 8) (dt_of rfl) (dt_of rfl) (decide_eq_true h8)) (ret_of (tup_of (rs := [.sh (.str "both"), .sh (.int one), .sh (.int ((rest % many : Nat) : Int))]) (evs_cons (r := .sh (.str "both")) rfl (evs_cons (r := .sh (.int one)) rfl (evs_cons (r := .sh (.int ((rest % many : Nat) : Int))) (modN (dt_of rfl) (dt_of rfl) (by omega)) evs_nil))) rfl (by rw [line24]; simp)))))))
    · have hfar : ∀ δ : List Sl, δ = [.sh (.int N), .sh (.int w), .sh (.int many), .sh (.int (N % 12 : Nat)), .sh (.int one), .sh (.int rest), .un, .un] → fIx (fLst [(op2 oMod (op2 oDiv (fVar 5) (fC (.int 3))) (op2 oAdd (fVar 1) (fC (.int 1)))), (fC (.int 1)), (op2 oDiv (op2 oMul (op2 oMod (op2 oDiv (fVar 5) (fC (.int 3))) (fC (.int 4))) (fVar 1)) (fC (.int 4)))]) (op2 oMod (fVar 5) (fC (.int 3))) δ = some (.sh (.int (([rest / 3 % (w + 1), 1, rest / 3 % 4 * w / 4].getD (rest % 3) 0 : Nat) : Int))) := fun δ hδ => by
        subst hδ
        refine ix_of (a := .lst (nats [rest / 3 % (w + 1), 1, rest / 3 % 4 * w / 4])) (i := ((rest % 3 : Nat) : Int)) (dt_of (r := .ow (nats [rest / 3 % (w + 1), 1, rest / 3 % 4 * w / 4])) (lst_of (rs := [.sh (.int ((rest / 3 % (w + 1) : Nat) : Int)), .sh (.int ((1 : Nat) : Int)), .sh (.int ((rest / 3 % 4 * w / 4 : Nat) : Int))]) (evs_cons (r := .sh (.int ((rest / 3 % (w + 1) : Nat) : Int))) (modN (dt_of (divN (b := 3) (dt_of rfl) (dt_of rfl) (by decide) (by decide))) (dt_of (addN (b := 1) (dt_of rfl) (dt_of rfl))) (by omega)) (evs_cons (r := .sh (.int ((1 : Nat) : Int))) rfl (evs_cons (r := .sh (.int ((rest / 3 % 4 * w / 4 : Nat) : Int))) (divN (b := 4) (dt_of (mulR (dt_of (modN (b := 4) (dt_of (divN (b := 3) (dt_of rfl) (dt_of rfl) (by decide) (by decide))) (dt_of rfl) (by decide))) (dt_of rfl) (by omega))) (dt_of rfl) (by decide) (by decide)) evs_nil))) rfl (by rw [line24]; simp))) (dt_of (modN (b := 3) (dt_of rfl) (dt_of rfl) (by decide))) (at_nats (by show rest % 3 < 3; omega))
      have hfl : [rest / 3 % (w + 1), 1, rest / 3 % 4 * w / 4].getD (rest % 3) 0 ≤ w := by
        rcases (show rest % 3 = 0 ∨ rest % 3 = 1 ∨ rest % 3 = 2 by omega) with e | e | e <;> rw [e]
        · show rest / 3 % (w + 1) ≤ w
          have := Nat.mod_lt (rest / 3) (show 0 < w + 1 by omega); omega
        · exact hw
        · show rest / 3 % 4 * w / 4 ≤ w
          have h1 : rest / 3 % 4 * w ≤ 4 * w := Nat.mul_le_mul_right w (by omega)
          omega
      generalize [rest / 3 % (w + 1), 1, rest / 3 % 4 * w / 4].getD (rest % 3) 0 = far at hfar hfl
      have fin : ∀ (x : Str) (j : Nat), N % 12 % 2 = j → ([Dm.str "up", Dm.str "down"])[j]? = some (.str x) → F__law_deed [.int N, .int w, .int many] = some (.sh (.tup [.str x, .int one, .int far])) := fun x j hj hx => by
        exact body_rt (r := (Rs.sh (.tup [.str x, .int one, .int far])).out) (δ := [.sh (.int N), .sh (.int w), .sh (.int many), .un, .un, .un, .un, .un]) rfl rfl (pre _ _ (seq_nx (if_f (ltN (b := 5) (dt_of rfl) (dt_of rfl) (decide_eq_false h5)) nil_nx) (seq_nx (if_f (ltN (b := 8) (dt_of rfl) (dt_of rfl) (decide_eq_false h8)) nil_nx) (ret_of (tup_of (rs := [.sh (.str x), .sh (.int one), .sh (.int far)]) (evs_cons (r := .sh (.str x)) (ix_of (a := .lst [Dm.str "up", Dm.str "down"]) (i := (j : Int)) (dt_of (r := .ow [Dm.str "up", Dm.str "down"]) (lst_of (rs := [.sh (Dm.str "up"), .sh (Dm.str "down")]) rfl rfl (by rw [line24]; simp))) (dt_of (r := .sh (.int (j : Int))) (by rw [← hj]; exact modN (b := 2) (dt_of rfl) (dt_of rfl) (by decide))) (atI_nat hx)) (evs_cons (r := .sh (.int one)) rfl (evs_cons (r := .sh (.int far)) (hfar _ rfl) evs_nil))) rfl (by rw [line24]; simp))))))
      rcases (show N % 12 % 2 = 0 ∨ N % 12 % 2 = 1 by omega) with e | e
      · exact ⟨.up one far, ⟨ho, hfl⟩, fin "up" 0 e rfl⟩
      · exact ⟨.down one far, ⟨ho, hfl⟩, fin "down" 1 e rfl⟩
theorem good_up {w i n : Nat} {d : Deed} (g : Good w i d) (h : i ≤ n) : Good w n d := by
  cases d <;> simp only [Good] at g ⊢ <;> omega
def swapB : Deed → Deed
  | .both a b => .both b a
  | d => d
theorem row_swap (S0 S1 S2 S3 : Sl) (d : Deed) : gIf (bB (op2 (oEq false) (fIx (fVar 4) (fC (.int 0))) (fC (.str "both")))) (gSet 4 (fz (fTup [(fC (.str "both")), (fIx (fVar 4) (fC (.int 2))), (fIx (fVar 4) (fC (.int 1)))]))) BF.gNil [S0, S1, S2, S3, .sh (enc d)] = some (.nx [S0, S1, S2, S3, .sh (enc (swapB d))]) := by
  have n0 : ∀ (x : Str) (r : List Dm), atI (Dm.str x :: r) 0 = some (.str x) := fun x r => atI_nat (j := 0) rfl
  have n1 : ∀ (x : Dm) (y : Dm) (r : List Dm), atI (x :: y :: r) 1 = some y := fun x y r => atI_nat (j := 1) rfl
  have n2 : ∀ (x y z : Dm) (r : List Dm), atI (x :: y :: z :: r) 2 = some z := fun x y z r => atI_nat (j := 2) rfl
  cases d <;> simp [bodyD, gRet, gSeq, gIf, gSet, gApp, BF.gNil, gFrz, frz, op2, dt, fVar, fC, evs, fTup, fLst, fCall, fB, fIx, ixD, fSl, slD, pNo, pSome, fz, own?, bB, bAnd, bOr, bNot, vAnd, vOr, vNot, fIsi, fList, fNeg, fCat, fRep, oAdd, oSub, oMul, oDiv, oMod, oPow, oShl, oShr, oAnd, oOr, oXor, oLt, oLe, oGt, oGe, oMin, oLen, oSum, enc, swapB, n0, n1, n2, str_tab, line24]
theorem rows2_loop (w : Nat) (hw : 1 ≤ w) (hw2 : w ≤ 64) (L : Dm) : ∀ (Ns : List Nat) (ds : List Deed) (s3 s4 : Sl), GoodRow w ds → ds.length + Ns.length ≤ 400 → ∃ ds' t3 t4, GoodRow w ds' ∧ ds'.length = ds.length + Ns.length ∧ loopD (.nm 3) B__law_rows_1 (nats Ns) [.sh (.int w), .sh L, .ow (ds.map enc), s3, s4] = some (.nx [.sh (.int w), .sh L, .ow (ds'.map enc), t3, t4])
  | [], ds, s3, s4, hg, _ => ⟨ds, s3, s4, hg, rfl, rfl⟩
  | N :: Ns, ds, s3, s4, hg, hl => by
    rw [List.length_cons] at hl
    have hlen : ∀ S4 : Sl, dt (fB oLen [(fVar 2)]) [.sh (.int w), .sh L, .ow (ds.map enc), .sh (.int N), S4] = some (.int ds.length) := fun S4 => dt_of (fB_of (d := .int ds.length) (rs := [.al 2 (ds.map enc)]) rfl (by simp [oLen, Rs.dat]))
    have step : ∀ (d : Deed) (t : Sl), Good w (ds.length + 1) d → B__law_rows_1 [.sh (.int w), .sh L, .ow (ds.map enc), .sh (.int N), s4] = some (.nx [.sh (.int w), .sh L, .ow (ds.map enc ++ [enc d]), .sh (.int N), t]) → ∃ ds' t3 t4, GoodRow w ds' ∧ ds'.length = ds.length + (N :: Ns).length ∧ loopD (.nm 3) B__law_rows_1 (nats (N :: Ns)) [.sh (.int w), .sh L, .ow (ds.map enc), s3, s4] = some (.nx [.sh (.int w), .sh L, .ow (ds'.map enc), t3, t4]) := fun d t gd hb => by
      obtain ⟨ds', t3, t4, g', l', e⟩ := rows2_loop w hw hw2 L Ns (ds ++ [d]) (.sh (.int N)) t (goodRow_snoc hg gd) (by rw [List.length_append]; simp; omega)
      refine ⟨ds', t3, t4, g', by rw [l', List.length_append, List.length_cons]; simp; omega, ?_⟩
      rw [List.map_append] at e
      exact loop_cons (δ1 := [.sh (.int w), .sh L, .ow (ds.map enc), .sh (.int N), s4]) rfl hb e
    by_cases hc : N % 8 = 0 ∧ 0 < ds.length
    · have hi := Nat.mod_lt (N / 8) hc.2
      have hd : ds[N / 8 % ds.length]? = some ds[N / 8 % ds.length] := List.getElem?_eq_getElem hi
      have gi := hg _ _ hd
      have gs : Good w (ds.length + 1) (swapB ds[N / 8 % ds.length]) := by
        have := good_up gi (show N / 8 % ds.length + 1 ≤ ds.length + 1 by omega)
        revert this
        cases ds[N / 8 % ds.length] <;> intro this
        case both a b => exact ⟨this.2, this.1⟩
        all_goals exact this
      refine step _ (.sh (enc (swapB ds[N / 8 % ds.length]))) gs (if_t (and_t (eqN (b := 0) (dt_of (modN (b := 8) (dt_of rfl) (dt_of rfl) (by decide))) (dt_of rfl) (decide_eq_true hc.1)) (gtN (b := 0) (hlen _) (dt_of rfl) (decide_eq_true hc.2))) (seq_nx (set_fz (r := .sh (enc ds[N / 8 % ds.length])) (ix_of (a := .lst (ds.map enc)) (i := ((N / 8 % ds.length : Nat) : Int)) (dt_of rfl) (dt_of (modN (dt_of (divN (b := 8) (dt_of rfl) (dt_of rfl) (by decide) (by decide))) (hlen _) hc.2)) (atI_nat (by rw [List.getElem?_map, hd]; rfl))) rfl) (seq_nx (row_swap _ _ _ _ _) (app_of (ds := ds.map enc) (r := .sh (enc (swapB ds[N / 8 % ds.length]))) rfl rfl rfl (by rw [List.length_map, line24]; omega)))))
    · obtain ⟨dd, gd, ed⟩ := deed2_ok (N / 8) w (ds.length + 1) hw hw2 (by omega) (by omega)
      have ht : bAnd (bB (op2 (oEq false) (op2 oMod (fVar 3) (fC (.int 8))) (fC (.int 0)))) (bB (op2 oGt (fB oLen [(fVar 2)]) (fC (.int 0)))) [.sh (.int w), .sh L, .ow (ds.map enc), .sh (.int N), s4] = some false := by
        have h1 : bB (op2 (oEq false) (op2 oMod (fVar 3) (fC (.int 8))) (fC (.int 0))) [.sh (.int w), .sh L, .ow (ds.map enc), .sh (.int N), s4] = some (decide (N % 8 = 0)) := eqN (b := 0) (dt_of (modN (b := 8) (dt_of rfl) (dt_of rfl) (by decide))) (dt_of rfl) rfl
        have h2 : bB (op2 oGt (fB oLen [(fVar 2)]) (fC (.int 0))) [.sh (.int w), .sh L, .ow (ds.map enc), .sh (.int N), s4] = some (decide (0 < ds.length)) := gtN (b := 0) (hlen _) (dt_of rfl) rfl
        rw [bAndV h1 h2]
        by_cases h : N % 8 = 0
        · rw [decide_eq_true h, decide_eq_false (fun z => hc ⟨h, z⟩)]; rfl
        · rw [decide_eq_false h]; rfl
      exact step dd s4 gd (if_f ht (app_of (ds := ds.map enc) (r := .sh (enc dd)) rfl (call_of (rs := [.sh (.int ((N / 8 : Nat) : Int)), .sh (.int w), .sh (.int ((ds.length + 1 : Nat) : Int))]) (evs_cons (r := .sh (.int ((N / 8 : Nat) : Int))) (divN (b := 8) (dt_of rfl) (dt_of rfl) (by decide) (by decide)) (evs_cons (r := .sh (.int w)) rfl (evs_cons (r := .sh (.int ((ds.length + 1 : Nat) : Int))) (addN (b := 1) (hlen _) (dt_of rfl)) evs_nil))) ed rfl) rfl (by rw [List.length_map, line24]; omega)))
theorem rows2_ok (w : Nat) (hw : 1 ≤ w) (hw2 : w ≤ 64) (Ns : List Nat) (hl : Ns.length ≤ 400) : ∃ ds, GoodRow w ds ∧ ds.length = Ns.length ∧ F__law_rows [.int w, .lst (nats Ns)] = some (.ow (ds.map enc)) := by
  obtain ⟨ds, t3, t4, hg, hdl, e⟩ := rows2_loop w hw hw2 (.lst (nats Ns)) Ns [] .un .un (fun i d h => by cases h) (by simpa using hl)
  refine ⟨ds, hg, by simpa using hdl, body_rt (r := (Rs.al 2 (ds.map enc)).out) (δ := [.sh (.int w), .sh (.lst (nats Ns)), .un, .un, .un]) rfl rfl (seq_nx (set_ow (d := []) (by simp [bodyD, gRet, gSeq, gIf, gSet, gApp, BF.gNil, gFrz, frz, op2, dt, fVar, fC, evs, fTup, fLst, fCall, fB, fIx, ixD, fSl, slD, pNo, pSome, fz, own?, bB, bAnd, bOr, bNot, vAnd, vOr, vNot, fIsi, fList, fNeg, fCat, fRep, oAdd, oSub, oMul, oDiv, oMod, oPow, oShl, oShr, oAnd, oOr, oXor, oLt, oLe, oGt, oGe, oMin, oLen, oSum, line24])) (seq_nx (for_of (iS_of (r := .sh (.lst (nats Ns))) rfl rfl) e) (ret_of rfl)))⟩
end LW
set_option Elab.async false
set_option linter.all false
set_option maxRecDepth 100000
set_option maxHeartbeats 4000000
namespace LW
open PySem L2 BF
set_option linter.unusedSimpArgs false
theorem okEq_enc (d : Deed) : okEq (enc d) = true := by
  have s1 : PyData.strOk "fix" = true := by decide +kernel
  have s2 : PyData.strOk "mask" = true := by decide +kernel
  have s3 : PyData.strOk "turn" = true := by decide +kernel
  have s4 : PyData.strOk "both" = true := by decide +kernel
  have s5 : PyData.strOk "up" = true := by decide +kernel
  have s6 : PyData.strOk "down" = true := by decide +kernel
  cases d <;> simp [okEq, PySem.SeqAt.shaped, enc, toPy, toPys, PyData.canLay0, PyData.canLayAll0, PyData.depth, PyData.depthAll, s1, s2, s3, s4, s5, s6]
theorem eqv_enc {d e : Deed} (h : PyData.eqv (toPy (enc d)) (toPy (enc e)) = true) : d = e := by
  cases d <;> cases e <;> simp [enc, toPy, toPys, PyData.eqv, PyData.eqvAll, str_tab] at h <;> first | (exact absurd h.1 (by decide +kernel)) | (obtain ⟨h1, h2⟩ := h; congr 1 <;> omega) | (congr 1; omega)
theorem any_enc {d : Deed} {Ks : List Deed} (h : d ∉ Ks) : anyEq (enc d) (Ks.map enc) = false := by
  unfold anyEq
  induction Ks with
  | nil => rfl
  | cons e Ks ih =>
    show (PyData.eqv (toPy (enc e)) (toPy (enc d)) || (toPys (Ks.map enc)).any fun y => PyData.eqv y (toPy (enc d))) = false
    rw [ih fun z => h (List.mem_cons_of_mem _ z), Bool.or_false]
    cases q : PyData.eqv (toPy (enc e)) (toPy (enc d)) with
    | false => rfl
    | true => exact absurd (eqv_enc q) (fun z => h (by rw [z]; exact List.mem_cons_self))
theorem key_ok (d : Deed) : F__law_key [enc d] = some (.sh (enc (keyD d))) := by
  have n0 : ∀ (x : Str) (r : List Dm), atI (Dm.str x :: r) 0 = some (.str x) := fun x r => atI_nat (j := 0) rfl
  have n1 : ∀ (x : Dm) (y : Dm) (r : List Dm), atI (x :: y :: r) 1 = some y := fun x y r => atI_nat (j := 1) rfl
  have n2 : ∀ (x y z : Dm) (r : List Dm), atI (x :: y :: z :: r) 2 = some z := fun x y z r => atI_nat (j := 2) rfl
  cases d with
  | both a b =>
    have e1 : (if (b : Int) < (a : Int) then (b : Int) else (a : Int)) = ((min a b : Nat) : Int) := by
      by_cases h : b < a
      · rw [if_pos (by omega), Nat.min_eq_right (by omega)]
      · rw [if_neg (by omega), Nat.min_eq_left (by omega)]
    have e2 : (if (b : Int) > (a : Int) then (b : Int) else (a : Int)) = ((max a b : Nat) : Int) := by
      by_cases h : b > a
      · rw [if_pos (by omega), Nat.max_eq_right (by omega)]
      · rw [if_neg (by omega), Nat.max_eq_left (by omega)]
    have g1 : ∀ δ : List Sl, δ = [.sh (enc (.both a b))] → fIx (fVar 0) (fC (.int 1)) δ = some (.sh (.int a)) := fun δ h => by subst h; exact ix_of (a := .tup [.str "both", .int a, .int b]) (d := .int a) (i := 1) (dt_of rfl) (dt_of rfl) (n1 _ _ _)
    have g2 : ∀ δ : List Sl, δ = [.sh (enc (.both a b))] → fIx (fVar 0) (fC (.int 2)) δ = some (.sh (.int b)) := fun δ h => by subst h; exact ix_of (a := .tup [.str "both", .int a, .int b]) (d := .int b) (i := 2) (dt_of rfl) (dt_of rfl) (n2 _ _ _ _)
    refine body_rt (r := (Rs.sh (.tup [.str "both", .int ((min a b : Nat) : Int), .int ((max a b : Nat) : Int)])).out) (δ := [.sh (enc (.both a b))]) rfl rfl (seq_rt (if_t ?_ (ret_of (tup_of (rs := [.sh (.str "both"), .sh (.int ((min a b : Nat) : Int)), .sh (.int ((max a b : Nat) : Int))]) (evs_cons (r := .sh (.str "both")) rfl (evs_cons (r := .sh (.int ((min a b : Nat) : Int))) (fB_of (rs := [.sh (.int a), .sh (.int b)]) (evs_cons (r := .sh (.int a)) (g1 _ rfl) (evs_cons (r := .sh (.int b)) (g2 _ rfl) evs_nil)) (by show some (Dm.int (if (b : Int) < (a : Int) then (b : Int) else (a : Int))) = _; rw [e1])) (evs_cons (r := .sh (.int ((max a b : Nat) : Int))) (fB_of (rs := [.sh (.int a), .sh (.int b)]) (evs_cons (r := .sh (.int a)) (g1 _ rfl) (evs_cons (r := .sh (.int b)) (g2 _ rfl) evs_nil)) (by show some (Dm.int (if (b : Int) > (a : Int) then (b : Int) else (a : Int))) = _; rw [e2])) evs_nil))) rfl (by rw [line24]; simp)))))
    simp [bodyD, gRet, gSeq, gIf, gSet, gApp, BF.gNil, gFrz, frz, op2, dt, fVar, fC, evs, fTup, fLst, fCall, fB, fIx, ixD, fSl, slD, pNo, pSome, fz, own?, bB, bAnd, bOr, bNot, vAnd, vOr, vNot, fIsi, fList, fNeg, fCat, fRep, oAdd, oSub, oMul, oDiv, oMod, oPow, oShl, oShr, oAnd, oOr, oXor, oLt, oLe, oGt, oGe, oMin, oLen, oSum, enc, n0, str_tab]
  | fix m => simp [F__law_key, bodyD, gRet, gSeq, gIf, gSet, gApp, BF.gNil, gFrz, frz, op2, dt, fVar, fC, evs, fTup, fLst, fCall, fB, fIx, ixD, fSl, slD, pNo, pSome, fz, own?, bB, bAnd, bOr, bNot, vAnd, vOr, vNot, fIsi, fList, fNeg, fCat, fRep, oAdd, oSub, oMul, oDiv, oMod, oPow, oShl, oShr, oAnd, oOr, oXor, oLt, oLe, oGt, oGe, oMin, oLen, oSum, enc, keyD, n0, str_tab]
  | mask a m => simp [F__law_key, bodyD, gRet, gSeq, gIf, gSet, gApp, BF.gNil, gFrz, frz, op2, dt, fVar, fC, evs, fTup, fLst, fCall, fB, fIx, ixD, fSl, slD, pNo, pSome, fz, own?, bB, bAnd, bOr, bNot, vAnd, vOr, vNot, fIsi, fList, fNeg, fCat, fRep, oAdd, oSub, oMul, oDiv, oMod, oPow, oShl, oShr, oAnd, oOr, oXor, oLt, oLe, oGt, oGe, oMin, oLen, oSum, enc, keyD, n0, str_tab]
  | turn a m => simp [F__law_key, bodyD, gRet, gSeq, gIf, gSet, gApp, BF.gNil, gFrz, frz, op2, dt, fVar, fC, evs, fTup, fLst, fCall, fB, fIx, ixD, fSl, slD, pNo, pSome, fz, own?, bB, bAnd, bOr, bNot, vAnd, vOr, vNot, fIsi, fList, fNeg, fCat, fRep, oAdd, oSub, oMul, oDiv, oMod, oPow, oShl, oShr, oAnd, oOr, oXor, oLt, oLe, oGt, oGe, oMin, oLen, oSum, enc, keyD, n0, str_tab]
  | up a m => simp [F__law_key, bodyD, gRet, gSeq, gIf, gSet, gApp, BF.gNil, gFrz, frz, op2, dt, fVar, fC, evs, fTup, fLst, fCall, fB, fIx, ixD, fSl, slD, pNo, pSome, fz, own?, bB, bAnd, bOr, bNot, vAnd, vOr, vNot, fIsi, fList, fNeg, fCat, fRep, oAdd, oSub, oMul, oDiv, oMod, oPow, oShl, oShr, oAnd, oOr, oXor, oLt, oLe, oGt, oGe, oMin, oLen, oSum, enc, keyD, n0, str_tab]
  | down a m => simp [F__law_key, bodyD, gRet, gSeq, gIf, gSet, gApp, BF.gNil, gFrz, frz, op2, dt, fVar, fC, evs, fTup, fLst, fCall, fB, fIx, ixD, fSl, slD, pNo, pSome, fz, own?, bB, bAnd, bOr, bNot, vAnd, vOr, vNot, fIsi, fList, fNeg, fCat, fRep, oAdd, oSub, oMul, oDiv, oMod, oPow, oShl, oShr, oAnd, oOr, oXor, oLt, oLe, oGt, oGe, oMin, oLen, oSum, enc, keyD, n0, str_tab]
theorem own_ok (d : Deed) : F__law_own [enc d] = some (.ow (nats (refs d))) := by
  have n0 : ∀ (x : Str) (r : List Dm), atI (Dm.str x :: r) 0 = some (.str x) := fun x r => atI_nat (j := 0) rfl
  have n1 : ∀ (x : Dm) (y : Dm) (r : List Dm), atI (x :: y :: r) 1 = some y := fun x y r => atI_nat (j := 1) rfl
  have n2 : ∀ (x y z : Dm) (r : List Dm), atI (x :: y :: z :: r) 2 = some z := fun x y z r => atI_nat (j := 2) rfl
  cases d <;> simp [F__law_own, bodyD, gRet, gSeq, gIf, gSet, gApp, BF.gNil, gFrz, frz, op2, dt, fVar, fC, evs, fTup, fLst, fCall, fB, fIx, ixD, fSl, slD, pNo, pSome, fz, own?, bB, bAnd, bOr, bNot, vAnd, vOr, vNot, fIsi, fList, fNeg, fCat, fRep, oAdd, oSub, oMul, oDiv, oMod, oPow, oShl, oShr, oAnd, oOr, oXor, oLt, oLe, oGt, oGe, oMin, oLen, oSum, enc, refs, nats, n0, n1, n2, str_tab, line24, Rs.out]
theorem idle_ok (w : Nat) (hw : w ≤ 64) (d : Deed) : F__law_idle [enc d, .int w] = some (.sh (.bl (idle w d))) := by
  have n0 : ∀ (x : Str) (r : List Dm), atI (Dm.str x :: r) 0 = some (.str x) := fun x r => atI_nat (j := 0) rfl
  have n1 : ∀ (x : Dm) (y : Dm) (r : List Dm), atI (x :: y :: r) 1 = some y := fun x y r => atI_nat (j := 1) rfl
  have n2 : ∀ (x y z : Dm) (r : List Dm), atI (x :: y :: z :: r) 2 = some z := fun x y z r => atI_nat (j := 2) rfl
  have p : powOk 1 (w : Int) = true := powOk_one (by omega) (by omega)
  have vor : ∀ {f g : EF} {δ : List Sl} {x y : Bool}, bB f δ = some x → g δ = some (.sh (.bl y)) → vOr f g δ = some (.sh (.bl (x || y))) := fun {f g δ x y} h h2 => by
    cases x with
    | true => exact vor_t h
    | false => rw [vor_f h h2]; rfl
  cases d with
  | fix m => simp [F__law_idle, bodyD, gRet, gSeq, gIf, gSet, gApp, BF.gNil, gFrz, frz, op2, dt, fVar, fC, evs, fTup, fLst, fCall, fB, fIx, ixD, fSl, slD, pNo, pSome, fz, own?, bB, bAnd, bOr, bNot, vAnd, vOr, vNot, fIsi, fList, fNeg, fCat, fRep, oAdd, oSub, oMul, oDiv, oMod, oPow, oShl, oShr, oAnd, oOr, oXor, oLt, oLe, oGt, oGe, oMin, oLen, oSum, enc, idle, n0, n1, n2, str_tab]
  | turn a m =>
    have g2 : ∀ δ : List Sl, δ = [.sh (enc (.turn a m)), .sh (.int w)] → fIx (fVar 0) (fC (.int 2)) δ = some (.sh (.int m)) := fun δ h => by subst h; exact ix_of (a := .tup [.str "turn", .int a, .int m]) (d := .int m) (i := 2) (dt_of rfl) (dt_of rfl) (n2 _ _ _ _)
    refine body_rt (r := (Rs.sh (.bl (decide (m = 0)))).out) (δ := [.sh (enc (.turn a m)), .sh (.int w)]) rfl rfl (seq_nx (if_f ?_ nil_nx) (seq_rt (if_t ?_ (ret_of (eqN' (b := 0) (dt_of (g2 _ rfl)) (dt_of rfl) rfl)))))
    · simp [bodyD, gRet, gSeq, gIf, gSet, gApp, BF.gNil, gFrz, frz, op2, dt, fVar, fC, evs, fTup, fLst, fCall, fB, fIx, ixD, fSl, slD, pNo, pSome, fz, own?, bB, bAnd, bOr, bNot, vAnd, vOr, vNot, fIsi, fList, fNeg, fCat, fRep, oAdd, oSub, oMul, oDiv, oMod, oPow, oShl, oShr, oAnd, oOr, oXor, oLt, oLe, oGt, oGe, oMin, oLen, oSum, enc, n0, str_tab]
    · simp [bodyD, gRet, gSeq, gIf, gSet, gApp, BF.gNil, gFrz, frz, op2, dt, fVar, fC, evs, fTup, fLst, fCall, fB, fIx, ixD, fSl, slD, pNo, pSome, fz, own?, bB, bAnd, bOr, bNot, vAnd, vOr, vNot, fIsi, fList, fNeg, fCat, fRep, oAdd, oSub, oMul, oDiv, oMod, oPow, oShl, oShr, oAnd, oOr, oXor, oLt, oLe, oGt, oGe, oMin, oLen, oSum, enc, n0, str_tab]
  | mask a m =>
    have g2 : ∀ δ : List Sl, δ = [.sh (enc (.mask a m)), .sh (.int w)] → fIx (fVar 0) (fC (.int 2)) δ = some (.sh (.int m)) := fun δ h => by subst h; exact ix_of (a := .tup [.str "mask", .int a, .int m]) (d := .int m) (i := 2) (dt_of rfl) (dt_of rfl) (n2 _ _ _ _)
    refine body_rt (r := (Rs.sh (.bl (decide (m = 0) || decide (m = 2 ^ w - 1)))).out) (δ := [.sh (enc (.mask a m)), .sh (.int w)]) rfl rfl (seq_rt (if_t ?_ (ret_of (vor (bB_of (dt_of (eqN' (b := 0) (dt_of (g2 _ rfl)) (dt_of rfl) rfl))) (eqN' (b := 2 ^ w - 1) (dt_of (g2 _ rfl)) (dt_of (subN (b := 1) (dt_of (shl1 (b := w) (dt_of rfl) (by omega))) (dt_of rfl) (Nat.two_pow_pos w))) rfl)))))
    simp [bodyD, gRet, gSeq, gIf, gSet, gApp, BF.gNil, gFrz, frz, op2, dt, fVar, fC, evs, fTup, fLst, fCall, fB, fIx, ixD, fSl, slD, pNo, pSome, fz, own?, bB, bAnd, bOr, bNot, vAnd, vOr, vNot, fIsi, fList, fNeg, fCat, fRep, oAdd, oSub, oMul, oDiv, oMod, oPow, oShl, oShr, oAnd, oOr, oXor, oLt, oLe, oGt, oGe, oMin, oLen, oSum, enc, n0, str_tab]
  | up a m =>
    have g2 : ∀ δ : List Sl, δ = [.sh (enc (.up a m)), .sh (.int w)] → fIx (fVar 0) (fC (.int 2)) δ = some (.sh (.int m)) := fun δ h => by subst h; exact ix_of (a := .tup [.str "up", .int a, .int m]) (d := .int m) (i := 2) (dt_of rfl) (dt_of rfl) (n2 _ _ _ _)
    refine body_rt (r := (Rs.sh (.bl (decide (m = 0) || decide (m = w)))).out) (δ := [.sh (enc (.up a m)), .sh (.int w)]) rfl rfl (seq_nx (if_f ?_ nil_nx) (seq_nx (if_f ?_ nil_nx) (seq_rt (if_t ?_ (ret_of (vor (bB_of (dt_of (eqN' (b := 0) (dt_of (g2 _ rfl)) (dt_of rfl) rfl))) (eqN' (b := w) (dt_of (g2 _ rfl)) (dt_of rfl) rfl)))))))
    · simp [bodyD, gRet, gSeq, gIf, gSet, gApp, BF.gNil, gFrz, frz, op2, dt, fVar, fC, evs, fTup, fLst, fCall, fB, fIx, ixD, fSl, slD, pNo, pSome, fz, own?, bB, bAnd, bOr, bNot, vAnd, vOr, vNot, fIsi, fList, fNeg, fCat, fRep, oAdd, oSub, oMul, oDiv, oMod, oPow, oShl, oShr, oAnd, oOr, oXor, oLt, oLe, oGt, oGe, oMin, oLen, oSum, enc, n0, str_tab]
    · simp [bodyD, gRet, gSeq, gIf, gSet, gApp, BF.gNil, gFrz, frz, op2, dt, fVar, fC, evs, fTup, fLst, fCall, fB, fIx, ixD, fSl, slD, pNo, pSome, fz, own?, bB, bAnd, bOr, bNot, vAnd, vOr, vNot, fIsi, fList, fNeg, fCat, fRep, oAdd, oSub, oMul, oDiv, oMod, oPow, oShl, oShr, oAnd, oOr, oXor, oLt, oLe, oGt, oGe, oMin, oLen, oSum, enc, n0, str_tab]
    · simp [bodyD, gRet, gSeq, gIf, gSet, gApp, BF.gNil, gFrz, frz, op2, dt, fVar, fC, evs, fTup, fLst, fCall, fB, fIx, ixD, fSl, slD, pNo, pSome, fz, own?, bB, bAnd, bOr, bNot, vAnd, vOr, vNot, fIsi, fList, fNeg, fCat, fRep, oAdd, oSub, oMul, oDiv, oMod, oPow, oShl, oShr, oAnd, oOr, oXor, oLt, oLe, oGt, oGe, oMin, oLen, oSum, enc, n0, str_tab]
  | down a m =>
    have g2 : ∀ δ : List Sl, δ = [.sh (enc (.down a m)), .sh (.int w)] → fIx (fVar 0) (fC (.int 2)) δ = some (.sh (.int m)) := fun δ h => by subst h; exact ix_of (a := .tup [.str "down", .int a, .int m]) (d := .int m) (i := 2) (dt_of rfl) (dt_of rfl) (n2 _ _ _ _)
    refine body_rt (r := (Rs.sh (.bl (decide (m = 0) || decide (m = w)))).out) (δ := [.sh (enc (.down a m)), .sh (.int w)]) rfl rfl (seq_nx (if_f ?_ nil_nx) (seq_nx (if_f ?_ nil_nx) (seq_rt (if_t ?_ (ret_of (vor (bB_of (dt_of (eqN' (b := 0) (dt_of (g2 _ rfl)) (dt_of rfl) rfl))) (eqN' (b := w) (dt_of (g2 _ rfl)) (dt_of rfl) rfl)))))))
    · simp [bodyD, gRet, gSeq, gIf, gSet, gApp, BF.gNil, gFrz, frz, op2, dt, fVar, fC, evs, fTup, fLst, fCall, fB, fIx, ixD, fSl, slD, pNo, pSome, fz, own?, bB, bAnd, bOr, bNot, vAnd, vOr, vNot, fIsi, fList, fNeg, fCat, fRep, oAdd, oSub, oMul, oDiv, oMod, oPow, oShl, oShr, oAnd, oOr, oXor, oLt, oLe, oGt, oGe, oMin, oLen, oSum, enc, n0, str_tab]
    · simp [bodyD, gRet, gSeq, gIf, gSet, gApp, BF.gNil, gFrz, frz, op2, dt, fVar, fC, evs, fTup, fLst, fCall, fB, fIx, ixD, fSl, slD, pNo, pSome, fz, own?, bB, bAnd, bOr, bNot, vAnd, vOr, vNot, fIsi, fList, fNeg, fCat, fRep, oAdd, oSub, oMul, oDiv, oMod, oPow, oShl, oShr, oAnd, oOr, oXor, oLt, oLe, oGt, oGe, oMin, oLen, oSum, enc, n0, str_tab]
    · simp [bodyD, gRet, gSeq, gIf, gSet, gApp, BF.gNil, gFrz, frz, op2, dt, fVar, fC, evs, fTup, fLst, fCall, fB, fIx, ixD, fSl, slD, pNo, pSome, fz, own?, bB, bAnd, bOr, bNot, vAnd, vOr, vNot, fIsi, fList, fNeg, fCat, fRep, oAdd, oSub, oMul, oDiv, oMod, oPow, oShl, oShr, oAnd, oOr, oXor, oLt, oLe, oGt, oGe, oMin, oLen, oSum, enc, n0, str_tab]
  | both a b =>
    have g1 : ∀ δ : List Sl, δ = [.sh (enc (.both a b)), .sh (.int w)] → fIx (fVar 0) (fC (.int 1)) δ = some (.sh (.int a)) := fun δ h => by subst h; exact ix_of (a := .tup [.str "both", .int a, .int b]) (d := .int a) (i := 1) (dt_of rfl) (dt_of rfl) (n1 _ _ _)
    have g2 : ∀ δ : List Sl, δ = [.sh (enc (.both a b)), .sh (.int w)] → fIx (fVar 0) (fC (.int 2)) δ = some (.sh (.int b)) := fun δ h => by subst h; exact ix_of (a := .tup [.str "both", .int a, .int b]) (d := .int b) (i := 2) (dt_of rfl) (dt_of rfl) (n2 _ _ _ _)
    refine body_rt (r := (Rs.sh (.bl (decide (a = b)))).out) (δ := [.sh (enc (.both a b)), .sh (.int w)]) rfl rfl (seq_nx (if_f ?_ nil_nx) (seq_nx (if_f ?_ nil_nx) (seq_nx (if_f ?_ nil_nx) (ret_of (vand_t ?_ (eqN' (dt_of (g1 _ rfl)) (dt_of (g2 _ rfl)) rfl))))))
    · simp [bodyD, gRet, gSeq, gIf, gSet, gApp, BF.gNil, gFrz, frz, op2, dt, fVar, fC, evs, fTup, fLst, fCall, fB, fIx, ixD, fSl, slD, pNo, pSome, fz, own?, bB, bAnd, bOr, bNot, vAnd, vOr, vNot, fIsi, fList, fNeg, fCat, fRep, oAdd, oSub, oMul, oDiv, oMod, oPow, oShl, oShr, oAnd, oOr, oXor, oLt, oLe, oGt, oGe, oMin, oLen, oSum, enc, n0, str_tab]
    · simp [bodyD, gRet, gSeq, gIf, gSet, gApp, BF.gNil, gFrz, frz, op2, dt, fVar, fC, evs, fTup, fLst, fCall, fB, fIx, ixD, fSl, slD, pNo, pSome, fz, own?, bB, bAnd, bOr, bNot, vAnd, vOr, vNot, fIsi, fList, fNeg, fCat, fRep, oAdd, oSub, oMul, oDiv, oMod, oPow, oShl, oShr, oAnd, oOr, oXor, oLt, oLe, oGt, oGe, oMin, oLen, oSum, enc, n0, str_tab]
    · simp [bodyD, gRet, gSeq, gIf, gSet, gApp, BF.gNil, gFrz, frz, op2, dt, fVar, fC, evs, fTup, fLst, fCall, fB, fIx, ixD, fSl, slD, pNo, pSome, fz, own?, bB, bAnd, bOr, bNot, vAnd, vOr, vNot, fIsi, fList, fNeg, fCat, fRep, oAdd, oSub, oMul, oDiv, oMod, oPow, oShl, oShr, oAnd, oOr, oXor, oLt, oLe, oGt, oGe, oMin, oLen, oSum, enc, n0, str_tab]
    · simp [bodyD, gRet, gSeq, gIf, gSet, gApp, BF.gNil, gFrz, frz, op2, dt, fVar, fC, evs, fTup, fLst, fCall, fB, fIx, ixD, fSl, slD, pNo, pSome, fz, own?, bB, bAnd, bOr, bNot, vAnd, vOr, vNot, fIsi, fList, fNeg, fCat, fRep, oAdd, oSub, oMul, oDiv, oMod, oPow, oShl, oShr, oAnd, oOr, oXor, oLt, oLe, oGt, oGe, oMin, oLen, oSum, enc, n0, str_tab]
theorem refs_len (d : Deed) : (refs d).length ≤ 2 := by cases d <;> simp [refs]
theorem formed_loop (w : Nat) (hw : w ≤ 64) (K : List Deed) (hW : ∀ i : Nat, i < K.length → i + 1 = K.length ∨ ∃ (j : Nat) (d : Deed), i < j ∧ K[j]? = some d ∧ i + 1 ∈ refs d) (hK : ∀ (i j : Nat) (d e : Deed), K[i]? = some d → K[j]? = some e → keyD d = keyD e → i = j) (hI : ∀ (i : Nat) (d : Deed), K[i]? = some d → idle w d = false) :
    ∀ (k : Nat) (W : List Nat) (Ks : List Deed) (s4 s5 : Sl), k ≤ K.length → W.length + 2 * k ≤ 2000 → Ks.length + k ≤ 1000 → (∀ v, (v = K.length ∨ ∃ (j : Nat) (d : Deed), k ≤ j ∧ K[j]? = some d ∧ v ∈ refs d) → v ∈ W) → (∀ e ∈ Ks, ∃ (j : Nat) (d : Deed), k ≤ j ∧ K[j]? = some d ∧ e = keyD d) →
      ∃ δ', loopD (.nm 4) B__law_formed_1 (rng3 (k : Int) (-1) k) [.sh (.lst (K.map enc)), .sh (.int w), .sh (.lst (nats W)), .ow (Ks.map enc), s4, s5] = some (.nx δ')
  | 0, W, Ks, s4, s5, _, _, _, _, _ => ⟨_, rfl⟩
  | k + 1, W, Ks, s4, s5, hk, hl, hl2, hv, he => by
    have hd : K[k]? = some K[k] := List.getElem?_eq_getElem (show k < K.length by omega)
    generalize K[k] = d at hd
    have hr2 := refs_len d
    obtain ⟨δ', e⟩ := formed_loop w hw K hW hK hI k (W ++ refs d) (Ks ++ [keyD d]) (.sh (.int ((k + 1 : Nat) : Int))) (.sh (enc d)) (by omega) (by rw [List.length_append]; omega) (by rw [List.length_append]; simp; omega) (fun v h => by
        rcases h with h | ⟨j, e, hj, hje, hve⟩
        · exact List.mem_append_left _ (hv v (.inl h))
        · rcases Nat.lt_or_eq_of_le hj with hj | rfl
          · exact List.mem_append_left _ (hv v (.inr ⟨j, e, hj, hje, hve⟩))
          · rw [hd] at hje; cases hje
            exact List.mem_append_right _ hve) (fun e h => by
        rcases List.mem_append.mp h with h | h
        · obtain ⟨j, d', hj, h1, h2⟩ := he e h
          exact ⟨j, d', by omega, h1, h2⟩
        · rw [List.mem_singleton.mp h]
          exact ⟨k, d, Nat.le_refl _, hd, rfl⟩)
    refine ⟨δ', ?_⟩
    rw [rng3_down]
    have hmem : k + 1 ∈ W := hv _ (by
      rcases hW k (by omega) with h | ⟨j, e, hj, hje, hve⟩
      · exact .inl h
      · exact .inr ⟨j, e, hj, hje, hve⟩)
    have hnk : keyD d ∉ Ks := fun z => by
      obtain ⟨j, d', hj, h1, h2⟩ := he _ z
      have := hK k j d d' hd h1 h2
      omega
    have hid : F__law_idle [enc d, .int w] = some (.sh (.bl false)) := by rw [idle_ok w hw d, hI k d hd]
    rw [List.map_append] at e
    rw [nats_app] at e
    refine loop_cons (δ1 := [.sh (.lst (K.map enc)), .sh (.int w), .sh (.lst (nats W)), .ow (Ks.map enc), .sh (.int ((k + 1 : Nat) : Int)), s5]) rfl (seq_nx (set_fz (r := .sh (enc d)) (ix_of (a := .lst (K.map enc)) (i := (k : Int)) (dt_of rfl) (dt_of (r := .sh (.int (k : Int))) ?_) (atI_nat (by rw [List.getElem?_map, hd]; rfl))) rfl) (seq_nx (if_f (or_f (ninN (a := k + 1) (T := W) (dt_of rfl) (dt_of rfl) (by rw [decide_eq_true hmem]; rfl)) (or_f (bB_of (dt_of (op2_of (a := enc (keyD d)) (b := .lst (Ks.map enc)) (d := .bl false) (dt_of (call_of (rs := [.sh (enc d)]) rfl (key_ok d) rfl)) (dt_of rfl) ?_))) (bB_of (dt_of (call_of (rs := [.sh (enc d), .sh (.int w)]) (r := .sh (.bl false)) rfl hid rfl))))) nil_nx) (seq_nx (app_of (ds := Ks.map enc) (r := .sh (enc (keyD d))) rfl (call_of (rs := [.sh (enc d)]) rfl (key_ok d) rfl) rfl (by rw [List.length_map, line24]; omega)) (set_fz (r := .ow (nats W ++ nats (refs d))) (cat_of (dt_of rfl) (dt_of (call_of (rs := [.sh (enc d)]) rfl (own_ok d) rfl)) (by rw [nats_len, nats_len, line24]; omega)) rfl)))) e
    · have := subN (a := k + 1) (b := 1) (fa := fVar 4) (fb := fC (.int 1)) (δ := [.sh (.lst (K.map enc)), .sh (.int w), .sh (.lst (nats W)), .ow (Ks.map enc), .sh (.int ((k + 1 : Nat) : Int)), s5]) (dt_of rfl) (dt_of rfl) (by omega)
      rw [this, Nat.add_sub_cancel]
    · show (if okEq (enc (keyD d)) && okEq (.lst (Ks.map enc)) then some (Dm.bl (if false = true then !anyEq (enc (keyD d)) (Ks.map enc) else anyEq (enc (keyD d)) (Ks.map enc))) else none) = _
      rw [okEq_enc, okEq_rows, Bool.and_self, if_pos rfl, if_neg Bool.false_ne_true, any_enc hnk]
theorem formed_ok (w : Nat) (hw : w ≤ 64) (K : List Deed) (hl : K.length ≤ 400) (hW : ∀ i : Nat, i < K.length → i + 1 = K.length ∨ ∃ (j : Nat) (d : Deed), i < j ∧ K[j]? = some d ∧ i + 1 ∈ refs d) (hK : ∀ (i j : Nat) (d e : Deed), K[i]? = some d → K[j]? = some e → keyD d = keyD e → i = j) (hI : ∀ (i : Nat) (d : Deed), K[i]? = some d → idle w d = false) : F__law_formed [.lst (K.map enc), .int w] = some (.sh (.bl true)) := by
  obtain ⟨δ', e⟩ := formed_loop w hw K hW hK hI K.length [K.length] [] .un .un (Nat.le_refl _) (by simp; omega) (by simp; omega) (fun v h => by
    rcases h with h | ⟨j, d, hj, hd, _⟩
    · rw [h]; exact List.mem_singleton_self _
    · have := (List.getElem?_eq_some_iff.mp hd).1; omega) (fun e h => by cases h)
  have hs : Builtin.Range.rangeSize 1 ((K.length + 1 : Nat) : Int) 1 = (K.length : Int) := by
    unfold Builtin.Range.rangeSize
    simp only [show ((1 : Int) > 0) by decide, if_true, Int.ediv_one]
    split <;> omega
  have hlen : fB oLen [(fVar 0)] = fun δ => fB oLen [(fVar 0)] δ := rfl
  refine body_rt (r := (Rs.sh (.bl true)).out) (δ := [.sh (.lst (K.map enc)), .sh (.int w), .un, .un, .un, .un]) rfl rfl (seq_nx (set_fz (r := .ow (nats [K.length])) (lst_of (rs := [.sh (.int K.length)]) (evs_cons (r := .sh (.int K.length)) (fB_of (rs := [.sh (.lst (K.map enc))]) rfl (by simp [oLen])) evs_nil) rfl (by rw [line24]; simp)) rfl) (seq_nx (set_ow (d := []) (by simp [bodyD, gRet, gSeq, gIf, gSet, gApp, BF.gNil, gFrz, frz, op2, dt, fVar, fC, evs, fTup, fLst, fCall, fB, fIx, ixD, fSl, slD, pNo, pSome, fz, own?, bB, bAnd, bOr, bNot, vAnd, vOr, vNot, fIsi, fList, fNeg, fCat, fRep, oAdd, oSub, oMul, oDiv, oMod, oPow, oShl, oShr, oAnd, oOr, oXor, oLt, oLe, oGt, oGe, oMin, oLen, oSum, line24])) (seq_nx (for_of (ds := rng3 (K.length : Int) (-1) K.length) ?_ e) ?_)))
  · have h2 := addN (a := K.length) (b := 1) (fa := fB oLen [(fVar 0)]) (fb := fC (.int 1)) (δ := [.sh (.lst (K.map enc)), .sh (.int w), .sh (.lst (nats [K.length])), .ow [], .un, .un]) (dt_of (fB_of (d := .int K.length) (rs := [.sh (.lst (K.map enc))]) rfl (by simp [oLen]))) (dt_of rfl)
    show ((dt (op2 oAdd (fB oLen [(fVar 0)]) (fC (.int 1))) [.sh (.lst (K.map enc)), .sh (.int w), .sh (.lst (nats [K.length])), .ow [], .un, .un]).bind fun d => d.int?.bind fun j => if okR 1 && okR j && fitsR 1 j 1 then some (rng3 (1 + (Builtin.Range.rangeSize 1 j 1 - 1) * 1) (-1) (Builtin.Range.rangeSize 1 j 1).toNat) else none) = _
    rw [dt_of h2, Option.bind_some]
    show (if (okR 1 && okR ((K.length + 1 : Nat) : Int) && fitsR 1 ((K.length + 1 : Nat) : Int) 1) = true then some (rng3 (1 + (Builtin.Range.rangeSize 1 ((K.length + 1 : Nat) : Int) 1 - 1) * 1) (-1) (Builtin.Range.rangeSize 1 ((K.length + 1 : Nat) : Int) 1).toNat) else none) = _
    have hfit : fitsR 1 ((K.length + 1 : Nat) : Int) 1 = true := by
      unfold fitsR
      rw [hs]
      simp only [Builtin.Range.rangeFitsLong, Bool.and_eq_true, decide_eq_true_eq]
      omega
    rw [show okR 1 = true from okR_nat (n := 1) (by omega), okR_nat (n := K.length + 1) (by omega), hfit, hs]
    rw [Bool.and_self, Bool.and_self, if_pos rfl, Int.toNat_natCast, show (1 + ((K.length : Int) - 1) * 1) = (K.length : Int) by omega]
  · exact ret_of (r := .sh (.bl true)) rfl
def twice : Deed → Deed
  | .fix m => .fix m
  | .both a b => .both (2 * b) (2 * a)
  | d => renD (2 * ·) d
theorem twice_ok (d : Deed) (hd : ∀ a ∈ refs d, a < 2 ^ 60) : F__law_twice [enc d] = some (.sh (enc (twice d))) := by
  have n0 : ∀ (x : Str) (r : List Dm), atI (Dm.str x :: r) 0 = some (.str x) := fun x r => atI_nat (j := 0) rfl
  have n1 : ∀ (x : Dm) (y : Dm) (r : List Dm), atI (x :: y :: r) 1 = some y := fun x y r => atI_nat (j := 1) rfl
  have n2 : ∀ (x y z : Dm) (r : List Dm), atI (x :: y :: z :: r) 2 = some z := fun x y z r => atI_nat (j := 2) rfl
  have m2 : ∀ b : Int, mulOk 2 b = true := fun b => mulOk_left (by decide) (by decide)
  cases d <;> simp [F__law_twice, bodyD, gRet, gSeq, gIf, gSet, gApp, BF.gNil, gFrz, frz, op2, dt, fVar, fC, evs, fTup, fLst, fCall, fB, fIx, ixD, fSl, slD, pNo, pSome, fz, own?, bB, bAnd, bOr, bNot, vAnd, vOr, vNot, fIsi, fList, fNeg, fCat, fRep, oAdd, oSub, oMul, oDiv, oMod, oPow, oShl, oShr, oAnd, oOr, oXor, oLt, oLe, oGt, oGe, oMin, oLen, oSum, enc, twice, renD, n0, n1, n2, str_tab, line24, m2]
def dblD : List Deed → List Deed
  | [] => []
  | d :: ds => twice d :: twice d :: dblD ds
theorem dbl_len : ∀ ds : List Deed, (dblD ds).length = 2 * ds.length
  | [] => rfl
  | d :: ds => by show (dblD ds).length + 1 + 1 = _; rw [dbl_len ds, List.length_cons]; omega
theorem good_twice {w n : Nat} {d : Deed} (g : Good w n d) {m : Nat} (h : 2 * n ≤ m + 1) : Good w m (twice d) := by
  cases d <;> simp only [Good, twice, renD] at g ⊢ <;> omega
theorem dbl_at : ∀ {ds : List Deed} {i : Nat} {d : Deed}, (dblD ds)[i]? = some d → ∃ e, ds[i / 2]? = some e ∧ d = twice e
  | [], i, d, h => by cases h
  | e :: ds, 0, d, h => by cases h; exact ⟨e, rfl, rfl⟩
  | e :: ds, 1, d, h => by cases h; exact ⟨e, rfl, rfl⟩
  | e :: ds, i + 2, d, h => by
    obtain ⟨f, h1, h2⟩ := dbl_at (ds := ds) (i := i) (d := d) h
    exact ⟨f, by rw [show (i + 2) / 2 = i / 2 + 1 by omega]; exact h1, h2⟩
theorem dbl_good {w : Nat} {ds : List Deed} (hg : GoodRow w ds) : GoodRow w (dblD ds) := fun i d h => by
  obtain ⟨e, h1, rfl⟩ := dbl_at h
  exact good_twice (hg _ _ h1) (by omega)
theorem doubled_loop (L : Dm) : ∀ (ds acc : List Deed) (s2 : Sl), (∀ d ∈ ds, ∀ a ∈ refs d, a < 2 ^ 60) → acc.length + 2 * ds.length ≤ 100000 → ∃ t2, loopD (.nm 2) B__law_doubled_1 (ds.map enc) [.sh L, .sh (.lst (acc.map enc)), s2] = some (.nx [.sh L, .sh (.lst ((acc ++ dblD ds).map enc)), t2])
  | [], acc, s2, _, _ => ⟨s2, by rw [show dblD [] = [] from rfl, List.append_nil]; rfl⟩
  | d :: ds, acc, s2, hr, hl => by
    rw [List.length_cons] at hl
    obtain ⟨t2, e⟩ := doubled_loop L ds (acc ++ [twice d, twice d]) (.sh (enc d)) (fun d' h => hr d' (List.mem_cons_of_mem _ h)) (by rw [List.length_append]; simp; omega)
    refine ⟨t2, ?_⟩
    have ht := twice_ok d (hr d List.mem_cons_self)
    rw [List.map_append, List.append_assoc] at e
    refine loop_cons (δ1 := [.sh L, .sh (.lst (acc.map enc)), .sh (enc d)]) rfl (set_fz (r := .ow (acc.map enc ++ [enc (twice d), enc (twice d)])) (cat_of (dt_of rfl) (dt_of (r := .ow [enc (twice d), enc (twice d)]) (lst_of (rs := [.sh (enc (twice d)), .sh (enc (twice d))]) (evs_cons (r := .sh (enc (twice d))) (call_of (rs := [.sh (enc d)]) rfl ht rfl) (evs_cons (r := .sh (enc (twice d))) (call_of (rs := [.sh (enc d)]) rfl ht rfl) evs_nil)) rfl (by rw [line24]; simp))) (by rw [List.length_map, line24]; simp; omega)) rfl) e
theorem doubled_ok (ds : List Deed) (hr : ∀ d ∈ ds, ∀ a ∈ refs d, a < 2 ^ 60) (hl : ds.length ≤ 400) : F__law_doubled [.lst (ds.map enc)] = some (.sh (.lst ((dblD ds).map enc))) := by
  obtain ⟨t2, e⟩ := doubled_loop (.lst (ds.map enc)) ds [] .un hr (by simp; omega)
  exact body_rt (r := (Rs.sh (.lst ((dblD ds).map enc))).out) (δ := [.sh (.lst (ds.map enc)), .un, .un]) rfl rfl (seq_nx (set_fz (r := .ow []) (by simp [bodyD, gRet, gSeq, gIf, gSet, gApp, BF.gNil, gFrz, frz, op2, dt, fVar, fC, evs, fTup, fLst, fCall, fB, fIx, ixD, fSl, slD, pNo, pSome, fz, own?, bB, bAnd, bOr, bNot, vAnd, vOr, vNot, fIsi, fList, fNeg, fCat, fRep, oAdd, oSub, oMul, oDiv, oMod, oPow, oShl, oShr, oAnd, oOr, oXor, oLt, oLe, oGt, oGe, oMin, oLen, oSum, line24]) rfl) (seq_nx (for_of (iS_of (r := .sh (.lst (ds.map enc))) rfl rfl) e) (ret_of rfl)))
theorem holds_ok (w : Nat) (h1 : 1 ≤ w) (hw : w ≤ 64) (ds : List Deed) (hg : GoodRow w ds) (hl : ds.length ≤ 400) : F__law_holds [.lst (ds.map enc), .int w] = some (.sh (.bl true)) := by
  have hfl := few_len w ds
  have hf := formed_ok w hw (fewD w ds) (by omega) (fun i hi => few_wanted hg hi) (fun i j d e hi hj h => few_keys hg h1 hi hj h) (fun i d h => few_idle hg h1 h)
  exact body_rt (r := (Rs.sh (.bl true)).out) (δ := [.sh (.lst (ds.map enc)), .sh (.int w), .un]) rfl rfl (seq_nx (set_fz (r := .ow ((fewD w ds).map enc)) (call_of (rs := [.sh (.int w), .sh (.lst (ds.map enc))]) (evs_cons (r := .sh (.int w)) rfl (evs_cons (r := .ow (ds.map enc)) (list_of (dt_of rfl)) evs_nil)) (fewer_ok w h1 hw ds hg hl) rfl) rfl) (ret_of (vand_t (bB_of (dt_of (call_of (rs := [.sh (.lst ((fewD w ds).map enc)), .sh (.int w), .sh (.int ds.length)]) (evs_cons (r := .sh (.lst ((fewD w ds).map enc))) rfl (evs_cons (r := .sh (.int w)) rfl (evs_cons (r := .sh (.int ds.length)) (fB_of (rs := [.sh (.lst (ds.map enc))]) rfl (by simp [oLen])) evs_nil))) (fine_ok w ds.length hw (fewD w ds) (few_good hg) hfl (by omega)) rfl))) (call_of (rs := [.sh (.lst ((fewD w ds).map enc)), .sh (.int w)]) rfl hf rfl))))
end LW
set_option Elab.async false
set_option linter.all false
set_option maxRecDepth 100000
set_option maxHeartbeats 4000000
namespace LW
open PySem L2 BF
set_option linter.unusedSimpArgs false
theorem width_set (ns : List Int) (w : Nat) (ew : F__law_width [.int (ns.getD 0 0)] = some (.sh (.int w))) {δ : List Sl} (h : δ[0]? = some (.sh (.lst (ns.map .int)))) : fCall F__law_width [(fCall F__law_at [(fVar 0), (fC (.int 0))])] δ = some (.sh (.int w)) := by
  have hv : fVar 0 δ = some (.sh (.lst (ns.map .int))) := by unfold fVar; rw [h]
  exact call_of (rs := [.sh (.int (ns.getD 0 0))]) (evs_cons (r := .sh (.int (ns.getD 0 0))) (call_of (rs := [.sh (.lst (ns.map .int)), .sh (.int 0)]) (evs_cons (r := .sh (.lst (ns.map .int))) hv (evs_cons (r := .sh (.int 0)) rfl evs_nil)) (at_ok ns 0) rfl) evs_nil) ew rfl
theorem len_ints (cs : List Int) {δ : List Sl} {i : Nat} (h : δ[i]? = some (.sh (.lst (cs.map .int)))) : fB oLen [fVar i] δ = some (.sh (.int cs.length)) := fB_of (rs := [.sh (.lst (cs.map .int))]) (evs_cons (r := .sh (.lst (cs.map .int))) (by unfold fVar; rw [h]) evs_nil) (by simp [oLen])
theorem int_at (cs : List Int) (k : Nat) (hk : k < cs.length) : atI (cs.map Dm.int) (k : Int) = some (Dm.int cs[k]) := atI_nat (by rw [List.getElem?_map, List.getElem?_eq_getElem hk]; rfl)
open Classical in
noncomputable def bigN (c : Int) (k : Nat) : Nat := if h : k ≤ 1000 then Classical.choose (big_ok c k h) else 0
theorem bigN_ok (c : Int) (k : Nat) (hk : k ≤ 1000) : F__law_big [.int c, .int k] = some (.sh (.int (bigN c k : Nat))) := by
  unfold bigN
  rw [dif_pos hk]
  exact Classical.choose_spec (big_ok c k hk)
theorem law_true (ns : List Int) (h : ns.length ≤ 63) (hb : ∀ n ∈ ns, Builtin.Int.intBits n ≤ 1048576) : F_law [.lst (ns.map .int)] = some (.sh (.bl true)) := by
  obtain ⟨w, hW, ew⟩ := width2_ok (ns.getD 0 0)
  obtain ⟨h1, hw⟩ := hW.le
  generalize hcs : (ns.drop 2).take 61 = cs
  have hcl : cs.length ≤ 61 := by rw [← hcs, List.length_take]; omega
  generalize hNs : (List.range cs.length).map (fun k => bigN (cs.getD k 0 + ns.getD 1 0) k) = Ns
  have hNl : Ns.length = cs.length := by rw [← hNs]; simp
  obtain ⟨ds, hg, hdl, er⟩ := rows2_ok w h1 hw Ns (by omega)
  have hl : ds.length ≤ 61 := by omega
  have hrl : ∀ d ∈ ds, ∀ a ∈ refs d, a < 2 ^ 60 := fun d hd a ha => by
    obtain ⟨i, hi⟩ := List.mem_iff_getElem?.mp hd
    have := refs_lt (hg i d hi) a ha
    have := (List.getElem?_eq_some_iff.mp hi).1
    have : (62 : Nat) < 2 ^ 60 := by decide
    omega
  obtain ⟨at', hat⟩ : ∃ at' : Nat, (at' : Int) = ns.getD 1 0 % ((ds.length + 1 : Nat) : Int) := ⟨(ns.getD 1 0 % ((ds.length + 1 : Nat) : Int)).toNat, by have := Int.emod_nonneg (ns.getD 1 0) (show ((ds.length + 1 : Nat) : Int) ≠ 0 by omega); omega⟩
  have hatl : at' < ds.length + 1 := by have := Int.emod_lt_of_pos (ns.getD 1 0) (show (0 : Int) < ((ds.length + 1 : Nat) : Int) by omega); omega
  have hd0 := holds_ok w h1 hw ds hg (by omega)
  have hd2 := holds_ok w h1 hw (dblD ds) (dbl_good hg) (by rw [dbl_len]; omega)
  have hlenD : ∀ δ : List Sl, δ[3]? = some (.sh (.lst (ds.map enc))) → dt (fB oLen [(fVar 3)]) δ = some (.int ds.length) := fun δ hδ => dt_of (fB_of (d := .int ds.length) (rs := [.sh (.lst (ds.map enc))]) (evs_cons (r := .sh (.lst (ds.map enc))) (by unfold fVar; rw [hδ]) evs_nil) (by simp [oLen]))
  have one : ∀ (e : Deed) (s5 : Sl), Good w (ds.length + 1) e → B_law_1 [.sh (.lst (ns.map .int)), .sh (.int w), .sh (.lst (cs.map .int)), .sh (.lst (ds.map enc)), .sh (.int at'), .sh (enc e)] = some (.nx [.sh (.lst (ns.map .int)), .sh (.int w), .sh (.lst (cs.map .int)), .sh (.lst (ds.map enc)), .sh (.int at'), .sh (enc e)]) := fun e s5 ge => by
    have hh := holds_ok w h1 hw (ds ++ [e]) (goodRow_snoc hg ge) (by rw [List.length_append]; simp; omega)
    rw [List.map_append] at hh
    exact if_f (not_t (bB_of (dt_of (call_of (rs := [.sh (.lst (ds.map enc ++ [enc e])), .sh (.int w)]) (evs_cons (r := .ow (ds.map enc ++ [enc e])) (cat_of (dt_of rfl) (dt_of (r := .ow [enc e]) (lst_of (rs := [.sh (enc e)]) rfl rfl (by rw [line24]; simp))) (by rw [List.length_map, line24]; simp; omega)) (evs_cons (r := .sh (.int w)) rfl evs_nil)) hh rfl)))) nil_nx
  have p2 : 0 < 2 ^ w := Nat.two_pow_pos w
  refine body_rt (r := (Rs.sh (.bl true)).out) (δ := [.sh (.lst (ns.map .int)), .un, .un, .un, .un, .un]) rfl rfl (seq_nx (set_fz (r := .sh (.int w)) (width_set ns w ew rfl) rfl)
    (seq_nx (set_fz (r := .ow (cs.map .int)) ?_ rfl)
    (seq_nx (set_fz (r := .ow (ds.map enc)) (call_of (rs := [.sh (.int w), .sh (.lst (nats Ns))]) (evs_cons (r := .sh (.int w)) rfl (evs_cons (r := .ow (nats Ns)) ?_ evs_nil)) er rfl) rfl)
    (seq_nx (if_f (or_f (not_t (bB_of (dt_of (call_of (rs := [.sh (.lst (ds.map enc)), .sh (.int w)]) rfl hd0 rfl)))) (not_t (bB_of (dt_of (call_of (rs := [.sh (.lst ((dblD ds).map enc)), .sh (.int w)]) (evs_cons (r := .sh (.lst ((dblD ds).map enc))) (call_of (rs := [.sh (.lst (ds.map enc))]) rfl (doubled_ok ds hrl (by omega)) rfl) (evs_cons (r := .sh (.int w)) rfl evs_nil)) hd2 rfl))))) nil_nx)
    (seq_nx (set_sh (d := .int (at' : Nat)) ?_)
    (seq_nx (for_of (ds := [enc (.turn at' 0), enc (.mask at' (2 ^ w - 1)), enc (.up at' 0), enc (.down at' w), enc (.both at' at')]) ?_ (loop_cons rfl (one (.turn at' 0) .un ⟨hatl, p2⟩) (loop_cons rfl (one (.mask at' (2 ^ w - 1)) .un ⟨hatl, by omega⟩) (loop_cons rfl (one (.up at' 0) .un ⟨hatl, Nat.zero_le _⟩) (loop_cons rfl (one (.down at' w) .un ⟨hatl, Nat.le_refl _⟩) (loop_cons rfl (one (.both at' at') .un ⟨hatl, hatl⟩) loop_nil))))))
    (ret_of (r := .sh (.bl true)) rfl)))))))
  · rw [← hcs, List.map_take, List.map_drop, ← cut_mid (ns.map .int) 2 63 (by decide)]
    exact sl_of (dt_of rfl) rfl rfl
  · have e : nats Ns = (List.range cs.length).map fun k => Dm.int ((bigN (cs.getD k 0 + ns.getD 1 0) k : Nat) : Int) := by rw [← hNs]; unfold nats; rw [List.map_map]; rfl
    rw [e]
    refine comp_of (ds := rng 0 cs.length) (iR_of (dt_of (len_ints cs rfl)) (okR_nat (by omega))) (by rw [rng_len, line24]; omega) (mapD_rng _ fun k hk => ⟨.sh (.int (bigN (cs.getD k 0 + ns.getD 1 0) k : Nat)), call_of (rs := [.sh (.int (cs.getD k 0 + ns.getD 1 0)), .sh (.int k)]) (evs_cons (r := .sh (.int (cs.getD k 0 + ns.getD 1 0))) ?_ (evs_cons (r := .sh (.int k)) rfl evs_nil)) (bigN_ok _ k (by omega)) rfl, rfl⟩)
    have eg : cs.getD k 0 = cs[k] := by rw [List.getD_eq_getElem?_getD, List.getElem?_eq_getElem hk]; rfl
    refine op2_of (a := .int (cs.getD k 0)) (b := .int (ns.getD 1 0)) (dt_of (ix_of (a := .lst (cs.map .int)) (d := .int (cs.getD k 0)) (i := (k : Int)) (dt_of rfl) (dt_of rfl) (by rw [eg]; exact int_at cs k hk))) (dt_of (call_of (rs := [.sh (.lst (ns.map .int)), .sh (.int 1)]) rfl (at_ok ns 1) rfl)) (by show oI _ _ _ _ = _; rw [oI_int, if_pos rfl])
  · refine op2_of (a := .int (ns.getD 1 0)) (b := .int ((ds.length + 1 : Nat) : Int)) (dt_of (call_of (rs := [.sh (.lst (ns.map .int)), .sh (.int 1)]) rfl (at_ok ns 1) rfl)) (dt_of (addN (b := 1) (hlenD _ rfl) (dt_of rfl))) ?_
    show oI _ _ _ _ = _
    rw [oI_int, if_pos (posOk_of (by omega)), hat]
  · refine iL_of (r := .ow [enc (.turn at' 0), enc (.mask at' (2 ^ w - 1)), enc (.up at' 0), enc (.down at' w), enc (.both at' at')]) (lst_of (rs := [.sh (enc (.turn at' 0)), .sh (enc (.mask at' (2 ^ w - 1))), .sh (enc (.up at' 0)), .sh (enc (.down at' w)), .sh (enc (.both at' at'))]) (evs_cons (r := .sh (enc (.turn at' 0))) (tup_of (rs := [.sh (.str "turn"), .sh (.int at'), .sh (.int 0)]) rfl rfl (by rw [line24]; simp)) (evs_cons (r := .sh (enc (.mask at' (2 ^ w - 1)))) (tup_of (rs := [.sh (.str "mask"), .sh (.int at'), .sh (.int ((2 ^ w - 1 : Nat) : Int))]) (evs_cons (r := .sh (.str "mask")) rfl (evs_cons (r := .sh (.int at')) rfl (evs_cons (r := .sh (.int ((2 ^ w - 1 : Nat) : Int))) (subN (b := 1) (dt_of (shl1 (b := w) (dt_of rfl) (by omega))) (dt_of rfl) p2) evs_nil))) rfl (by rw [line24]; simp)) (evs_cons (r := .sh (enc (.up at' 0))) (tup_of (rs := [.sh (.str "up"), .sh (.int at'), .sh (.int 0)]) rfl rfl (by rw [line24]; simp)) (evs_cons (r := .sh (enc (.down at' w))) (tup_of (rs := [.sh (.str "down"), .sh (.int at'), .sh (.int w)]) rfl rfl (by rw [line24]; simp)) (evs_cons (r := .sh (enc (.both at' at'))) (tup_of (rs := [.sh (.str "both"), .sh (.int at'), .sh (.int at')]) rfl rfl (by rw [line24]; simp)) evs_nil))))) rfl (by rw [line24]; simp)) rfl
end LW
set_option Elab.async false
set_option linter.all false
set_option maxRecDepth 100000
set_option maxHeartbeats 8000000
namespace LW
open PySem L2 BF
def top (i : Nat) : Stmt := PySem.Challenge.pw_bitferry_k61_fewer_are_formed.main.body.getD i (.Pass ⟨0, 0, 0, 0⟩)
abbrev s__law_at : Stmt := top 15
abbrev s__law_mixed : Stmt := top 16
abbrev s__law_big : Stmt := top 24
abbrev s__law_twice : Stmt := top 31
abbrev s__law_doubled : Stmt := top 32
abbrev s__law_whole : Stmt := top 14
abbrev s__law_fine_row : Stmt := top 21
abbrev s__law_fine : Stmt := top 22
abbrev s__law_idle : Stmt := top 29
abbrev s__law_key : Stmt := top 28
abbrev s__law_own : Stmt := top 27
abbrev s__law_formed : Stmt := top 30
abbrev s_firsts_of : Stmt := top 8
abbrev s_mark_of : Stmt := top 7
abbrev s_made_by : Stmt := top 2
abbrev s_values : Stmt := top 1
abbrev s_marks_of : Stmt := top 6
abbrev s_renumbered : Stmt := top 3
abbrev s_used_by : Stmt := top 12
abbrev s_used_for : Stmt := top 11
abbrev s_only_used : Stmt := top 10
abbrev s_plain_of : Stmt := top 9
abbrev s_fewer : Stmt := top 5
abbrev s__law_holds : Stmt := top 33
abbrev s__law_deed : Stmt := top 25
abbrev s__law_rows : Stmt := top 26
abbrev s__law_width : Stmt := top 17
abbrev s_law : Stmt := top 34
section
variable {P : Program} {w : World} {K : PySem.W.Frag} {mg : Str → Option Value} {base : Heap}
theorem sc__law_at : FnScope ["_law_script", "_law_k"] ["_law_script", "_law_k"] (defScope s__law_at) := ⟨rfl, rfl, rfl, by decide +kernel, rfl, by decide +kernel, by decide +kernel⟩
theorem ok__law_at {f__law_at : Addr} {fd__law_at : FuncData} (D__law_at : Def1 K mg "_law_at" s__law_at f__law_at fd__law_at ["_law_script", "_law_k"]) (z_len : mg "len" = none) :
    FnOk P w K mg base CX0 1 f__law_at fd__law_at ["_law_script", "_law_k"] (spD K F__law_at) := by
  refine fnD D__law_at.fn sc__law_at fun cdv A outer s H E hr => ?_
  exact (psd_cons (psd_if (pt_lt (pd_var 1) (pd_bi call_len cs_len (by rfl) z_len bo_len (pad_cons (pd_var 0) pad_nil)))
      (psd_one (psd_ret (pd_ix (pd_var 0) (pd_var 1))))
      psd_nil)
      (psd_one (psd_ret pd_int)))
theorem sc__law_mixed : FnScope ["_law_cell", "_law_k", "_law_number"] ["_law_cell", "_law_k"] (defScope s__law_mixed) := ⟨rfl, rfl, rfl, by decide +kernel, rfl, by decide +kernel, by decide +kernel⟩
theorem ok__law_mixed {f__law_mixed : Addr} {fd__law_mixed : FuncData} (D__law_mixed : Def1 K mg "_law_mixed" s__law_mixed f__law_mixed fd__law_mixed ["_law_cell", "_law_k"]) :
    FnOk P w K mg base CX0 1 f__law_mixed fd__law_mixed ["_law_cell", "_law_k"] (spD K F__law_mixed) := by
  refine fnD D__law_mixed.fn sc__law_mixed fun cdv A outer s H E hr => ?_
  exact (psd_cons (psd_if (pt_ge (pd_var 0) (pd_pow pd_int pd_int))
      (psd_one (psd_ret (pd_mod (pd_div (pd_sub (pd_var 0) (pd_pow pd_int pd_int)) (pd_shl pd_int (pd_mul pd_int (pd_mod (pd_var 1) pd_int)))) (pd_shl pd_int pd_int))))
      psd_nil)
      (psd_cons (psd_set (i := 2) sc__law_mixed.nd rfl (by first | exact Or.inl rfl | exact Or.inr rfl) (pd_mod (pd_add (pd_add (pd_mul (pd_var 0) pd_int) (pd_mul (pd_mul pd_int (pd_var 1)) (pd_var 1))) (pd_var 1)) pd_int))
      (psd_cons (psd_set (i := 2) sc__law_mixed.nd rfl (by first | exact Or.inl rfl | exact Or.inr rfl) (pd_mod (pd_mul (pd_var 2) (pd_var 2)) pd_int))
      (psd_one (psd_ret (pd_mod (pd_mul (pd_var 2) pd_int) pd_int))))))
theorem sc__law_big : FnScope ["_law_cell", "_law_k", "_law_number"] ["_law_cell", "_law_k"] (defScope s__law_big) := ⟨rfl, rfl, rfl, by decide +kernel, rfl, by decide +kernel, by decide +kernel⟩
theorem ok__law_big {f__law_big : Addr} {fd__law_big : FuncData} (D__law_big : Def1 K mg "_law_big" s__law_big f__law_big fd__law_big ["_law_cell", "_law_k"]) {f__law_mixed : Addr} {fd__law_mixed : FuncData} (D__law_mixed : Def1 K mg "_law_mixed" s__law_mixed f__law_mixed fd__law_mixed ["_law_cell", "_law_k"]) (G__law_mixed : FnOk P w K mg base CX0 1 f__law_mixed fd__law_mixed ["_law_cell", "_law_k"] (spD K F__law_mixed)) :
    FnOk P w K mg base CX0 2 f__law_big fd__law_big ["_law_cell", "_law_k"] (spD K F__law_big) := by
  refine fnD D__law_big.fn sc__law_big fun cdv A outer s H E hr => ?_
  exact (psd_cons (psd_if (pt_ge (pd_var 0) (pd_pow pd_int pd_int))
      (psd_one (psd_ret (pd_sub (pd_var 0) (pd_pow pd_int pd_int))))
      psd_nil)
      (psd_cons (psd_set (i := 2) sc__law_big.nd rfl (by first | exact Or.inl rfl | exact Or.inr rfl) (pd_add (pd_mul (pd_call G__law_mixed (hr.mono (by decide)) (by rfl) D__law_mixed.mg D__law_mixed.fn.kp D__law_mixed.bi (pad_cons (pd_var 0) (pad_cons (pd_var 1) pad_nil))) pd_int) (pd_call G__law_mixed (hr.mono (by decide)) (by rfl) D__law_mixed.mg D__law_mixed.fn.kp D__law_mixed.bi (pad_cons (pd_var 0) (pad_cons (pd_add (pd_var 1) pd_int) pad_nil)))))
      (psd_cons (psd_set (i := 2) sc__law_big.nd rfl (by first | exact Or.inl rfl | exact Or.inr rfl) (pd_add (pd_mul (pd_var 2) pd_int) (pd_call G__law_mixed (hr.mono (by decide)) (by rfl) D__law_mixed.mg D__law_mixed.fn.kp D__law_mixed.bi (pad_cons (pd_var 0) (pad_cons (pd_add (pd_var 1) pd_int) pad_nil)))))
      (psd_one (psd_ret (pd_add (pd_mul (pd_var 2) pd_int) (pd_call G__law_mixed (hr.mono (by decide)) (by rfl) D__law_mixed.mg D__law_mixed.fn.kp D__law_mixed.bi (pad_cons (pd_var 0) (pad_cons (pd_add (pd_var 1) pd_int) pad_nil)))))))))
theorem sc__law_twice : FnScope ["_law_row"] ["_law_row"] (defScope s__law_twice) := ⟨rfl, rfl, rfl, by decide +kernel, rfl, by decide +kernel, by decide +kernel⟩
theorem ok__law_twice {f__law_twice : Addr} {fd__law_twice : FuncData} (D__law_twice : Def1 K mg "_law_twice" s__law_twice f__law_twice fd__law_twice ["_law_row"]) :
    FnOk P w K mg base CX0 1 f__law_twice fd__law_twice ["_law_row"] (spD K F__law_twice) := by
  refine fnD D__law_twice.fn sc__law_twice fun cdv A outer s H E hr => ?_
  exact (psd_cons (psd_if (pt_eq hr.units (pd_ix (pd_var 0) pd_int) pd_str)
      (psd_one (psd_ret (pd_var 0)))
      psd_nil)
      (psd_cons (psd_if (pt_eq hr.units (pd_ix (pd_var 0) pd_int) pd_str)
      (psd_one (psd_ret (pd_tup (pad_cons pd_str (pad_cons (pd_mul pd_int (pd_ix (pd_var 0) pd_int)) (pad_cons (pd_mul pd_int (pd_ix (pd_var 0) pd_int)) pad_nil))))))
      psd_nil)
      (psd_one (psd_ret (pd_tup (pad_cons (pd_ix (pd_var 0) pd_int) (pad_cons (pd_mul pd_int (pd_ix (pd_var 0) pd_int)) (pad_cons (pd_ix (pd_var 0) pd_int) pad_nil))))))))
theorem sc__law_doubled : FnScope ["_law_rows_here", "_law_found", "_law_row"] ["_law_rows_here"] (defScope s__law_doubled) := ⟨rfl, rfl, rfl, by decide +kernel, rfl, by decide +kernel, by decide +kernel⟩
theorem ok__law_doubled {f__law_doubled : Addr} {fd__law_doubled : FuncData} (D__law_doubled : Def1 K mg "_law_doubled" s__law_doubled f__law_doubled fd__law_doubled ["_law_rows_here"]) {f__law_twice : Addr} {fd__law_twice : FuncData} (D__law_twice : Def1 K mg "_law_twice" s__law_twice f__law_twice fd__law_twice ["_law_row"]) (G__law_twice : FnOk P w K mg base CX0 1 f__law_twice fd__law_twice ["_law_row"] (spD K F__law_twice)) :
    FnOk P w K mg base CX0 2 f__law_doubled fd__law_doubled ["_law_rows_here"] (spD K F__law_doubled) := by
  refine fnD D__law_doubled.fn sc__law_doubled fun cdv A outer s H E hr => ?_
  exact (psd_cons (psd_set (i := 1) sc__law_doubled.nd rfl (by first | exact Or.inl rfl | exact Or.inr rfl) (PD.fz (pd_lst pad_nil)))
      (psd_cons (psd_for PassesOwn.never rfl (pi_s (pd_var 0)) (pg_n 2 sc__law_doubled.nd)
      (psd_one (psd_set (i := 1) sc__law_doubled.nd rfl (by first | exact Or.inl rfl | exact Or.inr rfl) (PD.fz (pd_cat (pd_var 1) (pd_lst (pad_cons (pd_call G__law_twice (hr.mono (by decide)) (by rfl) D__law_twice.mg D__law_twice.fn.kp D__law_twice.bi (pad_cons (pd_var 2) pad_nil)) (pad_cons (pd_call G__law_twice (hr.mono (by decide)) (by rfl) D__law_twice.mg D__law_twice.fn.kp D__law_twice.bi (pad_cons (pd_var 2) pad_nil)) pad_nil))))))))
      (psd_one (psd_ret (pd_var 1)))))
theorem sc__law_whole : FnScope ["_law_found"] ["_law_found"] (defScope s__law_whole) := ⟨rfl, rfl, rfl, by decide +kernel, rfl, by decide +kernel, by decide +kernel⟩
theorem ok__law_whole {f__law_whole : Addr} {fd__law_whole : FuncData} (D__law_whole : Def1 K mg "_law_whole" s__law_whole f__law_whole fd__law_whole ["_law_found"]) (z_bool : mg "bool" = none) (z_int : mg "int" = none) (z_isinstance : mg "isinstance" = none) :
    FnOk P w K mg base CX0 1 f__law_whole fd__law_whole ["_law_found"] (spD K F__law_whole) := by
  refine fnD D__law_whole.fn sc__law_whole fun cdv A outer s H E hr => ?_
  exact (psd_one (psd_ret (pd_and (pd_isi (c := "int") (pd_var 0) (by decide) (by rfl) z_isinstance bo_isinstance (by rfl) z_int bo_int) (pd_one (pd_not (pd_isi (c := "bool") (pd_var 0) (by decide) (by rfl) z_isinstance bo_isinstance (by rfl) z_bool bo_bool))))))
theorem sc__law_fine_row : FnScope ["_law_row", "_law_width_here", "_law_ahead", "_law_part", "_law_top"] ["_law_row", "_law_width_here", "_law_ahead"] (defScope s__law_fine_row) := ⟨rfl, rfl, rfl, by decide +kernel, rfl, by decide +kernel, by decide +kernel⟩
theorem ok__law_fine_row {f__law_fine_row : Addr} {fd__law_fine_row : FuncData} (D__law_fine_row : Def1 K mg "_law_fine_row" s__law_fine_row f__law_fine_row fd__law_fine_row ["_law_row", "_law_width_here", "_law_ahead"]) {f__law_whole : Addr} {fd__law_whole : FuncData} (D__law_whole : Def1 K mg "_law_whole" s__law_whole f__law_whole fd__law_whole ["_law_found"]) (G__law_whole : FnOk P w K mg base CX0 1 f__law_whole fd__law_whole ["_law_found"] (spD K F__law_whole)) (z_isinstance : mg "isinstance" = none) (z_len : mg "len" = none) (z_str : mg "str" = none) (z_tuple : mg "tuple" = none) :
    FnOk P w K mg base CX0 2 f__law_fine_row fd__law_fine_row ["_law_row", "_law_width_here", "_law_ahead"] (spD K F__law_fine_row) := by
  refine fnD D__law_fine_row.fn sc__law_fine_row fun cdv A outer s H E hr => ?_
  exact (psd_cons (psd_if (PWD.t (pwd_or (ptd_not (pt_of (pd_isi (c := "tuple") (pd_var 0) (by decide) (by rfl) z_isinstance bo_isinstance (by rfl) z_tuple bo_tuple))) (pw1_or (ptd_not (pt_of (pd_isi (c := "str") (pd_ix (pd_var 0) pd_int) (by decide) (by rfl) z_isinstance bo_isinstance (by rfl) z_str bo_str))))))
      (psd_one (psd_ret pd_bl))
      psd_nil)
      (psd_cons (psd_for PassesOwn.never rfl (pi_s (pd_sl (pd_var 0) (po_at pd_int) po_no)) (pg_n 3 sc__law_fine_row.nd)
      (psd_one (psd_if (PWD.t (pwd_or (ptd_not (pt_of (pd_call G__law_whole (hr.mono (by decide)) (by rfl) D__law_whole.mg D__law_whole.fn.kp D__law_whole.bi (pad_cons (pd_var 3) pad_nil)))) (pw1_or (pt_lt (pd_var 3) pd_int))))
      (psd_one (psd_ret pd_bl))
      psd_nil)))
      (psd_cons (psd_set (i := 4) sc__law_fine_row.nd rfl (by first | exact Or.inl rfl | exact Or.inr rfl) (pd_sub (pd_shl pd_int (pd_var 1)) pd_int))
      (psd_cons (psd_if (pt_eq hr.units (pd_ix (pd_var 0) pd_int) pd_str)
      (psd_one (psd_ret (pd_and (pd_eq hr.units (pd_bi call_len cs_len (by rfl) z_len bo_len (pad_cons (pd_var 0) pad_nil)) pd_int) (pd_one (pd_le (pd_ix (pd_var 0) pd_int) (pd_var 4))))))
      psd_nil)
      (psd_cons (psd_if (PWD.t (pwd_or (pt_ne hr.units (pd_bi call_len cs_len (by rfl) z_len bo_len (pad_cons (pd_var 0) pad_nil)) pd_int) (pw1_or (pt_ge (pd_ix (pd_var 0) pd_int) (pd_var 2)))))
      (psd_one (psd_ret pd_bl))
      psd_nil)
      (psd_cons (psd_if (pt_eq hr.units (pd_ix (pd_var 0) pd_int) pd_str)
      (psd_one (psd_ret (pd_lt (pd_ix (pd_var 0) pd_int) (pd_var 2))))
      psd_nil)
      (psd_cons (psd_if (pt_in (pd_ix (pd_var 0) pd_int) (pd_lst (pad_cons pd_str (pad_cons pd_str pad_nil))) (by rfl))
      (psd_one (psd_ret (pd_le (pd_ix (pd_var 0) pd_int) (pd_var 1))))
      psd_nil)
      (psd_one (psd_ret (pd_and (pd_in (pd_ix (pd_var 0) pd_int) (pd_lst (pad_cons pd_str (pad_cons pd_str pad_nil))) (by rfl)) (pd_one (pd_le (pd_ix (pd_var 0) pd_int) (pd_var 4)))))))))))))
theorem sc__law_fine : FnScope ["_law_rows_here", "_law_width_here", "_law_most", "_law_at_here"] ["_law_rows_here", "_law_width_here", "_law_most"] (defScope s__law_fine) := ⟨rfl, rfl, rfl, by decide +kernel, rfl, by decide +kernel, by decide +kernel⟩
theorem ok__law_fine {f__law_fine : Addr} {fd__law_fine : FuncData} (D__law_fine : Def1 K mg "_law_fine" s__law_fine f__law_fine fd__law_fine ["_law_rows_here", "_law_width_here", "_law_most"]) {f__law_fine_row : Addr} {fd__law_fine_row : FuncData} (D__law_fine_row : Def1 K mg "_law_fine_row" s__law_fine_row f__law_fine_row fd__law_fine_row ["_law_row", "_law_width_here", "_law_ahead"]) (G__law_fine_row : FnOk P w K mg base CX0 2 f__law_fine_row fd__law_fine_row ["_law_row", "_law_width_here", "_law_ahead"] (spD K F__law_fine_row)) (z_isinstance : mg "isinstance" = none) (z_len : mg "len" = none) (z_list : mg "list" = none) (z_range : mg "range" = none) :
    FnOk P w K mg base CX0 3 f__law_fine fd__law_fine ["_law_rows_here", "_law_width_here", "_law_most"] (spD K F__law_fine) := by
  refine fnD D__law_fine.fn sc__law_fine fun cdv A outer s H E hr => ?_
  exact (psd_cons (psd_if (PWD.t (pwd_or (ptd_not (pt_of (pd_isi (c := "list") (pd_var 0) (by decide) (by rfl) z_isinstance bo_isinstance (by rfl) z_list bo_list))) (pw1_or (pt_gt (pd_bi call_len cs_len (by rfl) z_len bo_len (pad_cons (pd_var 0) pad_nil)) (pd_var 2)))))
      (psd_one (psd_ret pd_bl))
      psd_nil)
      (psd_cons (psd_for PassesOwn.never rfl (pi_r (pd_bi call_len cs_len (by rfl) z_len bo_len (pad_cons (pd_var 0) pad_nil)) (by rfl) z_range) (pg_n 3 sc__law_fine.nd)
      (psd_one (psd_if (ptd_not (pt_of (pd_call G__law_fine_row (hr.mono (by decide)) (by rfl) D__law_fine_row.mg D__law_fine_row.fn.kp D__law_fine_row.bi (pad_cons (pd_ix (pd_var 0) (pd_var 3)) (pad_cons (pd_var 1) (pad_cons (pd_add (pd_var 3) pd_int) pad_nil))))))
      (psd_one (psd_ret pd_bl))
      psd_nil)))
      (psd_one (psd_ret pd_bl))))
theorem sc__law_idle : FnScope ["_law_row", "_law_width_here"] ["_law_row", "_law_width_here"] (defScope s__law_idle) := ⟨rfl, rfl, rfl, by decide +kernel, rfl, by decide +kernel, by decide +kernel⟩
theorem ok__law_idle {f__law_idle : Addr} {fd__law_idle : FuncData} (D__law_idle : Def1 K mg "_law_idle" s__law_idle f__law_idle fd__law_idle ["_law_row", "_law_width_here"]) :
    FnOk P w K mg base CX0 1 f__law_idle fd__law_idle ["_law_row", "_law_width_here"] (spD K F__law_idle) := by
  refine fnD D__law_idle.fn sc__law_idle fun cdv A outer s H E hr => ?_
  exact (psd_cons (psd_if (pt_eq hr.units (pd_ix (pd_var 0) pd_int) pd_str)
      (psd_one (psd_ret (pd_or (pd_eq hr.units (pd_ix (pd_var 0) pd_int) pd_int) (pd_one (pd_eq hr.units (pd_ix (pd_var 0) pd_int) (pd_sub (pd_shl pd_int (pd_var 1)) pd_int))))))
      psd_nil)
      (psd_cons (psd_if (pt_eq hr.units (pd_ix (pd_var 0) pd_int) pd_str)
      (psd_one (psd_ret (pd_eq hr.units (pd_ix (pd_var 0) pd_int) pd_int)))
      psd_nil)
      (psd_cons (psd_if (PWD.t (pwd_or (pt_eq hr.units (pd_ix (pd_var 0) pd_int) pd_str) (pw1_or (pt_eq hr.units (pd_ix (pd_var 0) pd_int) pd_str))))
      (psd_one (psd_ret (pd_or (pd_eq hr.units (pd_ix (pd_var 0) pd_int) pd_int) (pd_one (pd_eq hr.units (pd_ix (pd_var 0) pd_int) (pd_var 1))))))
      psd_nil)
      (psd_one (psd_ret (pd_and (pd_eq hr.units (pd_ix (pd_var 0) pd_int) pd_str) (pd_one (pd_eq hr.units (pd_ix (pd_var 0) pd_int) (pd_ix (pd_var 0) pd_int)))))))))
theorem sc__law_key : FnScope ["_law_row"] ["_law_row"] (defScope s__law_key) := ⟨rfl, rfl, rfl, by decide +kernel, rfl, by decide +kernel, by decide +kernel⟩
theorem ok__law_key {f__law_key : Addr} {fd__law_key : FuncData} (D__law_key : Def1 K mg "_law_key" s__law_key f__law_key fd__law_key ["_law_row"]) (z_max : mg "max" = none) (z_min : mg "min" = none) :
    FnOk P w K mg base CX0 1 f__law_key fd__law_key ["_law_row"] (spD K F__law_key) := by
  refine fnD D__law_key.fn sc__law_key fun cdv A outer s H E hr => ?_
  exact (psd_cons (psd_if (pt_eq hr.units (pd_ix (pd_var 0) pd_int) pd_str)
      (psd_one (psd_ret (pd_tup (pad_cons pd_str (pad_cons (pd_bi (call_min2 rfl) cs_min (by rfl) z_min bo_min (pad_cons (pd_ix (pd_var 0) pd_int) (pad_cons (pd_ix (pd_var 0) pd_int) pad_nil))) (pad_cons (pd_bi (call_max2 rfl) cs_max (by rfl) z_max bo_max (pad_cons (pd_ix (pd_var 0) pd_int) (pad_cons (pd_ix (pd_var 0) pd_int) pad_nil))) pad_nil))))))
      psd_nil)
      (psd_one (psd_ret (pd_var 0))))
theorem sc__law_own : FnScope ["_law_row"] ["_law_row"] (defScope s__law_own) := ⟨rfl, rfl, rfl, by decide +kernel, rfl, by decide +kernel, by decide +kernel⟩
theorem ok__law_own {f__law_own : Addr} {fd__law_own : FuncData} (D__law_own : Def1 K mg "_law_own" s__law_own f__law_own fd__law_own ["_law_row"]) :
    FnOk P w K mg base CX0 1 f__law_own fd__law_own ["_law_row"] (spD K F__law_own) := by
  refine fnD D__law_own.fn sc__law_own fun cdv A outer s H E hr => ?_
  exact (psd_cons (psd_if (pt_eq hr.units (pd_ix (pd_var 0) pd_int) pd_str)
      (psd_one (psd_ret (pd_lst pad_nil)))
      psd_nil)
      (psd_cons (psd_if (pt_eq hr.units (pd_ix (pd_var 0) pd_int) pd_str)
      (psd_one (psd_ret (pd_lst (pad_cons (pd_ix (pd_var 0) pd_int) (pad_cons (pd_ix (pd_var 0) pd_int) pad_nil)))))
      psd_nil)
      (psd_one (psd_ret (pd_lst (pad_cons (pd_ix (pd_var 0) pd_int) pad_nil))))))
theorem sc__law_formed : FnScope ["_law_rows_here", "_law_width_here", "_law_wanted", "_law_keys", "_law_value_here", "_law_row"] ["_law_rows_here", "_law_width_here"] (defScope s__law_formed) := ⟨rfl, rfl, rfl, by decide +kernel, rfl, by decide +kernel, by decide +kernel⟩
theorem ok__law_formed {f__law_formed : Addr} {fd__law_formed : FuncData} (D__law_formed : Def1 K mg "_law_formed" s__law_formed f__law_formed fd__law_formed ["_law_rows_here", "_law_width_here"]) {f__law_idle : Addr} {fd__law_idle : FuncData} (D__law_idle : Def1 K mg "_law_idle" s__law_idle f__law_idle fd__law_idle ["_law_row", "_law_width_here"]) (G__law_idle : FnOk P w K mg base CX0 1 f__law_idle fd__law_idle ["_law_row", "_law_width_here"] (spD K F__law_idle)) {f__law_key : Addr} {fd__law_key : FuncData} (D__law_key : Def1 K mg "_law_key" s__law_key f__law_key fd__law_key ["_law_row"]) (G__law_key : FnOk P w K mg base CX0 1 f__law_key fd__law_key ["_law_row"] (spD K F__law_key)) {f__law_own : Addr} {fd__law_own : FuncData} (D__law_own : Def1 K mg "_law_own" s__law_own f__law_own fd__law_own ["_law_row"]) (G__law_own : FnOk P w K mg base CX0 1 f__law_own fd__law_own ["_law_row"] (spD K F__law_own)) (z_len : mg "len" = none) (z_range : mg "range" = none) (z_reversed : mg "reversed" = none) :
    FnOk P w K mg base CX0 2 f__law_formed fd__law_formed ["_law_rows_here", "_law_width_here"] (spD K F__law_formed) := by
  refine fnD D__law_formed.fn sc__law_formed fun cdv A outer s H E hr => ?_
  exact (psd_cons (psd_set (i := 2) sc__law_formed.nd rfl (by first | exact Or.inl rfl | exact Or.inr rfl) (PD.fz (pd_lst (pad_cons (pd_bi call_len cs_len (by rfl) z_len bo_len (pad_cons (pd_var 0) pad_nil)) pad_nil))))
      (psd_cons (psd_set (i := 3) sc__law_formed.nd rfl (by first | exact Or.inl rfl | exact Or.inr rfl) (pd_lst pad_nil))
      (psd_cons (psd_for PassesOwn.never rfl (pi_vr pd_int (pd_add (pd_bi call_len cs_len (by rfl) z_len bo_len (pad_cons (pd_var 0) pad_nil)) pd_int) (by rfl) z_reversed bo_reversed (by rfl) z_range) (pg_n 4 sc__law_formed.nd)
      (psd_cons (psd_set (i := 5) sc__law_formed.nd rfl (by first | exact Or.inl rfl | exact Or.inr rfl) (PD.fz (pd_ix (pd_var 0) (pd_sub (pd_var 4) pd_int))))
      (psd_cons (psd_if (PWD.t (pwd_or (pt_nin (pd_var 4) (pd_var 2) (by rfl)) (pwd_or (pt_inDD (room65 hr) (pd_call G__law_key (hr.mono (by decide)) (by rfl) D__law_key.mg D__law_key.fn.kp D__law_key.bi (pad_cons (pd_var 5) pad_nil)) (pd_var 3) (by rfl)) (pw1_or (pt_of (pd_call G__law_idle (hr.mono (by decide)) (by rfl) D__law_idle.mg D__law_idle.fn.kp D__law_idle.bi (pad_cons (pd_var 5) (pad_cons (pd_var 1) pad_nil))))))))
      (psd_one (psd_ret pd_bl))
      psd_nil)
      (psd_cons (psd_app 3 (pv 3) (pd_call G__law_key (hr.mono (by decide)) (by rfl) D__law_key.mg D__law_key.fn.kp D__law_key.bi (pad_cons (pd_var 5) pad_nil)))
      (psd_one (psd_set (i := 2) sc__law_formed.nd rfl (by first | exact Or.inl rfl | exact Or.inr rfl) (PD.fz (pd_cat (pd_var 2) (pd_call G__law_own (hr.mono (by decide)) (by rfl) D__law_own.mg D__law_own.fn.kp D__law_own.bi (pad_cons (pd_var 5) pad_nil))))))))))
      (psd_frz [3] (psd_one (psd_ret pd_bl))))))
theorem sc_firsts_of : FnScope ["marks", "known", "number", "mark"] ["marks"] (defScope s_firsts_of) := ⟨rfl, rfl, rfl, by decide +kernel, rfl, by decide +kernel, by decide +kernel⟩
theorem ok_firsts_of {f_firsts_of : Addr} {fd_firsts_of : FuncData} (D_firsts_of : Def1 K mg "firsts_of" s_firsts_of f_firsts_of fd_firsts_of ["marks"]) (z_enumerate : mg "enumerate" = none) :
    FnOk P w K mg base CX0 1 f_firsts_of fd_firsts_of ["marks"] (spD K F_firsts_of) := by
  refine fnD D_firsts_of.fn sc_firsts_of fun cdv A outer s H E hr => ?_
  exact (psd_cons (psd_newT (i := 1) sc_firsts_of.nd rfl (by first | exact Or.inl rfl | exact Or.inr rfl))
      (psd_cons (psd_for PassesOwn.never rfl (pi_e (pd_var 0) (by rfl) z_enumerate bo_enumerate) (pg_t rfl (pgs_c 2 (pgs_c 3 pgs_n sc_firsts_of.nd) sc_firsts_of.nd))
      (psd_one (psd_if (ptd_ninT 1 hr.units (pd_var 3) (pv 1))
      (psd_one (psd_putT 1 hr.units (pv 1) (pd_var 3) (pd_var 2)))
      psd_nil)))
      (psd_one (psd_ret (pd_comp rfl (compOk_mk (N := ["marks", "known", "number", "mark"]) (sc := defScope s_firsts_of) (N' := ["mark", "marks", "known", "number"]) (ix := [none, some 0, some 1, some 2]) (by decide +kernel)) (inj_of (by decide +kernel)) (own_of (t := (.nm 0)) (by decide +kernel)) (pi_s (pd_var 0)) (fun _ _ _ _ => (pg_n 0 (nd_of (N := ["mark", "marks", "known", "number"]) (by decide +kernel)))) (fun _ _ _ _ => (pd_tget 2 hr.units (pv 2) (pd_var 0))))))))
theorem sc_mark_of : FnScope ["made", "number"] ["made", "number"] (defScope s_mark_of) := ⟨rfl, rfl, rfl, by decide +kernel, rfl, by decide +kernel, by decide +kernel⟩
theorem ok_mark_of {f_mark_of : Addr} {fd_mark_of : FuncData} (D_mark_of : Def1 K mg "mark_of" s_mark_of f_mark_of fd_mark_of ["made", "number"]) (z_tuple : mg "tuple" = none) :
    FnOk P w K mg base CX0 1 f_mark_of fd_mark_of ["made", "number"] (spD K F_mark_of) := by
  refine fnD D_mark_of.fn sc_mark_of fun cdv A outer s H E hr => ?_
  exact (psd_one (psd_ret (pd_tuple (pd_comp rfl (compOk_mk (N := ["made", "number"]) (sc := defScope s_mark_of) (N' := ["some", "made", "number"]) (ix := [none, some 0, some 1]) (by decide +kernel)) (inj_of (by decide +kernel)) (own_of (t := (.nm 0)) (by decide +kernel)) (pi_s (pd_var 0)) (fun _ _ _ _ => (pg_n 0 (nd_of (N := ["some", "made", "number"]) (by decide +kernel)))) (fun _ _ _ _ => (pd_ix (pd_var 0) (pd_var 2)))) (by rfl) z_tuple bo_tuple)))
theorem sc_made_by : FnScope ["deed", "made", "every", "name", "value"] ["deed", "made", "every"] (defScope s_made_by) := ⟨rfl, rfl, rfl, by decide +kernel, rfl, by decide +kernel, by decide +kernel⟩
theorem ok_made_by {f_made_by : Addr} {fd_made_by : FuncData} (D_made_by : Def1 K mg "made_by" s_made_by f_made_by fd_made_by ["deed", "made", "every"]) :
    FnOk P w K mg base CX0 1 f_made_by fd_made_by ["deed", "made", "every"] (spD K F_made_by) := by
  refine fnD D_made_by.fn sc_made_by fun cdv A outer s H E hr => ?_
  exact (psd_cons (psd_set (i := 3) sc_made_by.nd rfl (by first | exact Or.inl rfl | exact Or.inr rfl) (PD.fz (pd_ix (pd_var 0) pd_int)))
      (psd_cons (psd_if (pt_eq hr.units (pd_var 3) pd_str)
      (psd_one (psd_ret (pd_ix (pd_var 0) pd_int)))
      psd_nil)
      (psd_cons (psd_set (i := 4) sc_made_by.nd rfl (by first | exact Or.inl rfl | exact Or.inr rfl) (PD.fz (pd_ix (pd_var 1) (pd_ix (pd_var 0) pd_int))))
      (psd_cons (psd_if (pt_eq hr.units (pd_var 3) pd_str)
      (psd_one (psd_ret (pd_band (pd_var 4) (pd_ix (pd_var 0) pd_int))))
      psd_nil)
      (psd_cons (psd_if (pt_eq hr.units (pd_var 3) pd_str)
      (psd_one (psd_ret (pd_xor (pd_var 4) (pd_ix (pd_var 0) pd_int))))
      psd_nil)
      (psd_cons (psd_if (pt_eq hr.units (pd_var 3) pd_str)
      (psd_one (psd_ret (pd_xor (pd_var 4) (pd_ix (pd_var 1) (pd_ix (pd_var 0) pd_int)))))
      psd_nil)
      (psd_cons (psd_if (pt_eq hr.units (pd_var 3) pd_str)
      (psd_one (psd_ret (pd_band (pd_shl (pd_var 4) (pd_ix (pd_var 0) pd_int)) (pd_var 2))))
      psd_nil)
      (psd_one (psd_ret (pd_shr (pd_var 4) (pd_ix (pd_var 0) pd_int)))))))))))
theorem sc_values : FnScope ["width", "rows", "word", "every", "made", "deed"] ["width", "rows", "word"] (defScope s_values) := ⟨rfl, rfl, rfl, by decide +kernel, rfl, by decide +kernel, by decide +kernel⟩
theorem ok_values {f_values : Addr} {fd_values : FuncData} (D_values : Def1 K mg "values" s_values f_values fd_values ["width", "rows", "word"]) {f_made_by : Addr} {fd_made_by : FuncData} (D_made_by : Def1 K mg "made_by" s_made_by f_made_by fd_made_by ["deed", "made", "every"]) (G_made_by : FnOk P w K mg base CX0 1 f_made_by fd_made_by ["deed", "made", "every"] (spD K F_made_by)) :
    FnOk P w K mg base CX0 2 f_values fd_values ["width", "rows", "word"] (spD K F_values) := by
  refine fnD D_values.fn sc_values fun cdv A outer s H E hr => ?_
  exact (psd_cons (psd_set (i := 3) sc_values.nd rfl (by first | exact Or.inl rfl | exact Or.inr rfl) (pd_sub (pd_shl pd_int (pd_var 0)) pd_int))
      (psd_cons (psd_set (i := 4) sc_values.nd rfl (by first | exact Or.inl rfl | exact Or.inr rfl) (pd_lst (pad_cons (pd_var 2) pad_nil)))
      (psd_cons (psd_for PassesOwn.never rfl (pi_s (pd_var 1)) (pg_n 5 sc_values.nd)
      (psd_one (psd_app 4 (pv 4) (pd_call G_made_by (hr.mono (by decide)) (by rfl) D_made_by.mg D_made_by.fn.kp D_made_by.bi (pad_cons (pd_var 5) (pad_cons (pd_var 4) (pad_cons (pd_var 3) pad_nil)))))))
      (psd_one (psd_ret (pd_var 4))))))
theorem sc_marks_of : FnScope ["width", "rows", "words", "made"] ["width", "rows"] (defScope s_marks_of) := ⟨rfl, rfl, rfl, by decide +kernel, rfl, by decide +kernel, by decide +kernel⟩
theorem ok_marks_of {f_marks_of : Addr} {fd_marks_of : FuncData} (D_marks_of : Def1 K mg "marks_of" s_marks_of f_marks_of fd_marks_of ["width", "rows"]) {f_mark_of : Addr} {fd_mark_of : FuncData} (D_mark_of : Def1 K mg "mark_of" s_mark_of f_mark_of fd_mark_of ["made", "number"]) (G_mark_of : FnOk P w K mg base CX0 1 f_mark_of fd_mark_of ["made", "number"] (spD K F_mark_of)) {f_values : Addr} {fd_values : FuncData} (D_values : Def1 K mg "values" s_values f_values fd_values ["width", "rows", "word"]) (G_values : FnOk P w K mg base CX0 2 f_values fd_values ["width", "rows", "word"] (spD K F_values)) (z_len : mg "len" = none) (z_range : mg "range" = none) :
    FnOk P w K mg base CX0 3 f_marks_of fd_marks_of ["width", "rows"] (spD K F_marks_of) := by
  refine fnD D_marks_of.fn sc_marks_of fun cdv A outer s H E hr => ?_
  exact (psd_cons (psd_set (i := 2) sc_marks_of.nd rfl (by first | exact Or.inl rfl | exact Or.inr rfl) (PD.fz (pd_cat (pd_lst (pad_cons pd_int pad_nil)) (pd_comp rfl (compOk_mk (N := ["width", "rows", "words", "made"]) (sc := defScope s_marks_of) (N' := ["place", "width", "rows", "words", "made"]) (ix := [none, some 0, some 1, some 2, some 3]) (by decide +kernel)) (inj_of (by decide +kernel)) (own_of (t := (.nm 0)) (by decide +kernel)) (pi_r (pd_var 0) (by rfl) z_range) (fun _ _ _ _ => (pg_n 0 (nd_of (N := ["place", "width", "rows", "words", "made"]) (by decide +kernel)))) (fun _ _ _ _ => (pd_shl pd_int (pd_var 0)))))))
      (psd_cons (psd_set (i := 3) sc_marks_of.nd rfl (by first | exact Or.inl rfl | exact Or.inr rfl) (PD.fz (pd_comp rfl (compOk_mk (N := ["width", "rows", "words", "made"]) (sc := defScope s_marks_of) (N' := ["word", "width", "rows", "words", "made"]) (ix := [none, some 0, some 1, some 2, some 3]) (by decide +kernel)) (inj_of (by decide +kernel)) (own_of (t := (.nm 0)) (by decide +kernel)) (pi_l (pd_var 2)) (fun _ _ _ _ => (pg_n 0 (nd_of (N := ["word", "width", "rows", "words", "made"]) (by decide +kernel)))) (fun _ _ _ _ => (pd_call G_values (hr.mono (by decide)) (by rfl) D_values.mg D_values.fn.kp D_values.bi (pad_cons (pd_var 1) (pad_cons (pd_var 2) (pad_cons (pd_var 0) pad_nil))))))))
      (psd_one (psd_ret (pd_comp rfl (compOk_mk (N := ["width", "rows", "words", "made"]) (sc := defScope s_marks_of) (N' := ["number", "width", "rows", "words", "made"]) (ix := [none, some 0, some 1, some 2, some 3]) (by decide +kernel)) (inj_of (by decide +kernel)) (own_of (t := (.nm 0)) (by decide +kernel)) (pi_r (pd_add (pd_bi call_len cs_len (by rfl) z_len bo_len (pad_cons (pd_var 1) pad_nil)) pd_int) (by rfl) z_range) (fun _ _ _ _ => (pg_n 0 (nd_of (N := ["number", "width", "rows", "words", "made"]) (by decide +kernel)))) (fun _ _ _ _ => (pd_call G_mark_of (hr.mono (by decide)) (by rfl) D_mark_of.mg D_mark_of.fn.kp D_mark_of.bi (pad_cons (pd_var 4) (pad_cons (pd_var 0) pad_nil)))))))))
theorem sc_renumbered : FnScope ["deed", "goes", "name"] ["deed", "goes"] (defScope s_renumbered) := ⟨rfl, rfl, rfl, by decide +kernel, rfl, by decide +kernel, by decide +kernel⟩
theorem ok_renumbered {f_renumbered : Addr} {fd_renumbered : FuncData} (D_renumbered : Def1 K mg "renumbered" s_renumbered f_renumbered fd_renumbered ["deed", "goes"]) :
    FnOk P w K mg base CX0 1 f_renumbered fd_renumbered ["deed", "goes"] (spD K F_renumbered) := by
  refine fnD D_renumbered.fn sc_renumbered fun cdv A outer s H E hr => ?_
  exact (psd_cons (psd_set (i := 2) sc_renumbered.nd rfl (by first | exact Or.inl rfl | exact Or.inr rfl) (PD.fz (pd_ix (pd_var 0) pd_int)))
      (psd_cons (psd_if (pt_eq hr.units (pd_var 2) pd_str)
      (psd_one (psd_ret (pd_var 0)))
      psd_nil)
      (psd_cons (psd_if (pt_eq hr.units (pd_var 2) pd_str)
      (psd_one (psd_ret (pd_tup (pad_cons (pd_var 2) (pad_cons (pd_two (pd_ix (pd_var 1) (pd_ix (pd_var 0) pd_int)) (pd_dget (pd_var 1) (pd_ix (pd_var 0) pd_int))) (pad_cons (pd_two (pd_ix (pd_var 1) (pd_ix (pd_var 0) pd_int)) (pd_dget (pd_var 1) (pd_ix (pd_var 0) pd_int))) pad_nil))))))
      psd_nil)
      (psd_one (psd_ret (pd_tup (pad_cons (pd_var 2) (pad_cons (pd_two (pd_ix (pd_var 1) (pd_ix (pd_var 0) pd_int)) (pd_dget (pd_var 1) (pd_ix (pd_var 0) pd_int))) (pad_cons (pd_ix (pd_var 0) pd_int) pad_nil)))))))))
theorem sc_used_by : FnScope ["deed"] ["deed"] (defScope s_used_by) := ⟨rfl, rfl, rfl, by decide +kernel, rfl, by decide +kernel, by decide +kernel⟩
theorem ok_used_by {f_used_by : Addr} {fd_used_by : FuncData} (D_used_by : Def1 K mg "used_by" s_used_by f_used_by fd_used_by ["deed"]) :
    FnOk P w K mg base CX0 1 f_used_by fd_used_by ["deed"] (spD K F_used_by) := by
  refine fnD D_used_by.fn sc_used_by fun cdv A outer s H E hr => ?_
  exact (psd_cons (psd_if (pt_eq hr.units (pd_ix (pd_var 0) pd_int) pd_str)
      (psd_one (psd_ret (pd_lst pad_nil)))
      psd_nil)
      (psd_cons (psd_if (pt_eq hr.units (pd_ix (pd_var 0) pd_int) pd_str)
      (psd_one (psd_ret (pd_lst (pad_cons (pd_ix (pd_var 0) pd_int) (pad_cons (pd_ix (pd_var 0) pd_int) pad_nil)))))
      psd_nil)
      (psd_one (psd_ret (pd_lst (pad_cons (pd_ix (pd_var 0) pd_int) pad_nil))))))
theorem sc_used_for : FnScope ["rows", "last", "used", "number", "ahead"] ["rows", "last"] (defScope s_used_for) := ⟨rfl, rfl, rfl, by decide +kernel, rfl, by decide +kernel, by decide +kernel⟩
theorem ok_used_for {f_used_for : Addr} {fd_used_for : FuncData} (D_used_for : Def1 K mg "used_for" s_used_for f_used_for fd_used_for ["rows", "last"]) {f_used_by : Addr} {fd_used_by : FuncData} (D_used_by : Def1 K mg "used_by" s_used_by f_used_by fd_used_by ["deed"]) (G_used_by : FnOk P w K mg base CX0 1 f_used_by fd_used_by ["deed"] (spD K F_used_by)) (z_range : mg "range" = none) :
    FnOk P w K mg base CX0 2 f_used_for fd_used_for ["rows", "last"] (spD K F_used_for) := by
  refine fnD D_used_for.fn sc_used_for fun cdv A outer s H E hr => ?_
  exact (psd_cons (psd_set (i := 2) sc_used_for.nd rfl (by first | exact Or.inl rfl | exact Or.inr rfl) (pd_disp1 (pd_var 1) pd_bl))
      (psd_cons (psd_for PassesOwn.never rfl (pi_r3n (pd_var 1) pd_int (pd_neg pd_int) (by rfl) z_range) (pg_n 3 sc_used_for.nd)
      (psd_one (psd_if (ptd_inD 2 (pd_var 3) (pv 2))
      (psd_one (psd_for PassesOwn.never rfl (pi_s (pd_call G_used_by (hr.mono (by decide)) (by rfl) D_used_by.mg D_used_by.fn.kp D_used_by.bi (pad_cons (pd_ix (pd_var 0) (pd_sub (pd_var 3) pd_int)) pad_nil))) (pg_n 4 sc_used_for.nd)
      (psd_one (psd_put 2 (pv 2) (pd_var 4) pd_bl))))
      psd_nil)))
      (psd_one (psd_retD 2 (pv 2)))))
theorem sc_only_used : FnScope ["rows", "last", "used", "kept", "goes", "number"] ["rows", "last"] (defScope s_only_used) := ⟨rfl, rfl, rfl, by decide +kernel, rfl, by decide +kernel, by decide +kernel⟩
theorem ok_only_used {f_only_used : Addr} {fd_only_used : FuncData} (D_only_used : Def1 K mg "only_used" s_only_used f_only_used fd_only_used ["rows", "last"]) {f_renumbered : Addr} {fd_renumbered : FuncData} (D_renumbered : Def1 K mg "renumbered" s_renumbered f_renumbered fd_renumbered ["deed", "goes"]) (G_renumbered : FnOk P w K mg base CX0 1 f_renumbered fd_renumbered ["deed", "goes"] (spD K F_renumbered)) {f_used_for : Addr} {fd_used_for : FuncData} (D_used_for : Def1 K mg "used_for" s_used_for f_used_for fd_used_for ["rows", "last"]) (G_used_for : FnOk P w K mg base CX0 2 f_used_for fd_used_for ["rows", "last"] (spD K F_used_for)) (z_len : mg "len" = none) (z_range : mg "range" = none) :
    FnOk P w K mg base CX0 3 f_only_used fd_only_used ["rows", "last"] (spD K F_only_used) := by
  refine fnD D_only_used.fn sc_only_used fun cdv A outer s H E hr => ?_
  exact (psd_cons (psd_set (i := 2) sc_only_used.nd rfl (by first | exact Or.inl rfl | exact Or.inr rfl) (PD.fz (pd_call G_used_for (hr.mono (by decide)) (by rfl) D_used_for.mg D_used_for.fn.kp D_used_for.bi (pad_cons (pd_var 0) (pad_cons (pd_var 1) pad_nil)))))
      (psd_cons (psd_set (i := 3) sc_only_used.nd rfl (by first | exact Or.inl rfl | exact Or.inr rfl) (pd_lst pad_nil))
      (psd_cons (psd_set (i := 4) sc_only_used.nd rfl (by first | exact Or.inl rfl | exact Or.inr rfl) (pd_disp1 pd_int pd_int))
      (psd_cons (psd_for PassesOwn.never rfl (pi_r2 pd_int (pd_add (pd_var 1) pd_int) (by rfl) z_range) (pg_n 5 sc_only_used.nd)
      (psd_one (psd_if (ptd_inD 2 (pd_var 5) (pv 2))
      (psd_cons (psd_app 3 (pv 3) (pd_callD 4 G_renumbered (hr.mono (by decide)) (by rfl) D_renumbered.mg D_renumbered.fn.kp D_renumbered.bi (pd_ix (pd_var 0) (pd_sub (pd_var 5) pd_int)) (pv 4)))
      (psd_one (psd_put 4 (pv 4) (pd_var 5) (pd_bi call_len cs_len (by rfl) z_len bo_len (pad_cons (pd_var 3) pad_nil)))))
      psd_nil)))
      (psd_one (psd_ret (pd_var 3)))))))
theorem sc_plain_of : FnScope ["deed", "mark", "first"] ["deed", "mark", "first"] (defScope s_plain_of) := ⟨rfl, rfl, rfl, by decide +kernel, rfl, by decide +kernel, by decide +kernel⟩
theorem ok_plain_of {f_plain_of : Addr} {fd_plain_of : FuncData} (D_plain_of : Def1 K mg "plain_of" s_plain_of f_plain_of fd_plain_of ["deed", "mark", "first"]) {f_renumbered : Addr} {fd_renumbered : FuncData} (D_renumbered : Def1 K mg "renumbered" s_renumbered f_renumbered fd_renumbered ["deed", "goes"]) (G_renumbered : FnOk P w K mg base CX0 1 f_renumbered fd_renumbered ["deed", "goes"] (spD K F_renumbered)) (z_all : mg "all" = none) :
    FnOk P w K mg base CX0 2 f_plain_of fd_plain_of ["deed", "mark", "first"] (spD K F_plain_of) := by
  refine fnD D_plain_of.fn sc_plain_of fun cdv A outer s H E hr => ?_
  exact (psd_cons (psd_if (pt_of (pd_bi (call_all rfl) cs_all (by rfl) z_all bo_all (pad_cons (pd_comp rfl (compOk_mk (N := ["deed", "mark", "first"]) (sc := defScope s_plain_of) (N' := ["word", "deed", "mark", "first"]) (ix := [none, some 0, some 1, some 2]) (by decide +kernel)) (inj_of (by decide +kernel)) (own_of (t := (.nm 0)) (by decide +kernel)) (pi_s (pd_var 1)) (fun _ _ _ _ => (pg_n 0 (nd_of (N := ["word", "deed", "mark", "first"]) (by decide +kernel)))) (fun _ _ _ _ => (pd_eq hr.units (pd_var 0) (pd_ix (pd_var 2) pd_int)))) pad_nil)))
      (psd_one (psd_ret (pd_tup (pad_cons pd_str (pad_cons (pd_ix (pd_var 1) pd_int) pad_nil)))))
      psd_nil)
      (psd_one (psd_ret (pd_call G_renumbered (hr.mono (by decide)) (by rfl) D_renumbered.mg D_renumbered.fn.kp D_renumbered.bi (pad_cons (pd_var 0) (pad_cons (pd_var 2) pad_nil))))))
theorem sc_fewer : FnScope ["width", "rows", "marks", "first", "plain"] ["width", "rows"] (defScope s_fewer) := ⟨rfl, rfl, rfl, by decide +kernel, rfl, by decide +kernel, by decide +kernel⟩
theorem ok_fewer {f_fewer : Addr} {fd_fewer : FuncData} (D_fewer : Def1 K mg "fewer" s_fewer f_fewer fd_fewer ["width", "rows"]) {f_firsts_of : Addr} {fd_firsts_of : FuncData} (D_firsts_of : Def1 K mg "firsts_of" s_firsts_of f_firsts_of fd_firsts_of ["marks"]) (G_firsts_of : FnOk P w K mg base CX0 1 f_firsts_of fd_firsts_of ["marks"] (spD K F_firsts_of)) {f_marks_of : Addr} {fd_marks_of : FuncData} (D_marks_of : Def1 K mg "marks_of" s_marks_of f_marks_of fd_marks_of ["width", "rows"]) (G_marks_of : FnOk P w K mg base CX0 3 f_marks_of fd_marks_of ["width", "rows"] (spD K F_marks_of)) {f_only_used : Addr} {fd_only_used : FuncData} (D_only_used : Def1 K mg "only_used" s_only_used f_only_used fd_only_used ["rows", "last"]) (G_only_used : FnOk P w K mg base CX0 3 f_only_used fd_only_used ["rows", "last"] (spD K F_only_used)) {f_plain_of : Addr} {fd_plain_of : FuncData} (D_plain_of : Def1 K mg "plain_of" s_plain_of f_plain_of fd_plain_of ["deed", "mark", "first"]) (G_plain_of : FnOk P w K mg base CX0 2 f_plain_of fd_plain_of ["deed", "mark", "first"] (spD K F_plain_of)) (z_zip : mg "zip" = none) :
    FnOk P w K mg base CX0 4 f_fewer fd_fewer ["width", "rows"] (spD K F_fewer) := by
  refine fnD D_fewer.fn sc_fewer fun cdv A outer s H E hr => ?_
  exact (psd_cons (psd_set (i := 2) sc_fewer.nd rfl (by first | exact Or.inl rfl | exact Or.inr rfl) (PD.fz (pd_call G_marks_of (hr.mono (by decide)) (by rfl) D_marks_of.mg D_marks_of.fn.kp D_marks_of.bi (pad_cons (pd_var 0) (pad_cons (pd_var 1) pad_nil)))))
      (psd_cons (psd_set (i := 3) sc_fewer.nd rfl (by first | exact Or.inl rfl | exact Or.inr rfl) (PD.fz (pd_call G_firsts_of (hr.mono (by decide)) (by rfl) D_firsts_of.mg D_firsts_of.fn.kp D_firsts_of.bi (pad_cons (pd_var 2) pad_nil))))
      (psd_cons (psd_setCompF rfl (compOk_mk (N := ["width", "rows", "marks", "first", "plain"]) (sc := defScope s_fewer) (N' := ["deed", "mark", "width", "rows", "marks", "first", "plain"]) (ix := [none, none, some 0, some 1, some 2, some 3, some 4]) (by decide +kernel)) (inj_of (by decide +kernel)) (own_of (t := (.tp [0, 1])) (by decide +kernel)) (pi_z (pd_var 1) (pd_sl (pd_var 2) (po_at pd_int) po_no) (by rfl) z_zip bo_zip) (fun _ _ _ _ => (pg_t rfl (pgs_c 0 (pgs_c 1 pgs_n (nd_of (N := ["deed", "mark", "width", "rows", "marks", "first", "plain"]) (by decide +kernel))) (nd_of (N := ["deed", "mark", "width", "rows", "marks", "first", "plain"]) (by decide +kernel))))) (fun _ _ _ _ => (pd_call G_plain_of (hr.mono (by decide)) (by rfl) D_plain_of.mg D_plain_of.fn.kp D_plain_of.bi (pad_cons (pd_var 0) (pad_cons (pd_var 1) (pad_cons (pd_var 5) pad_nil))))) sc_fewer.nd rfl (by first | exact Or.inl rfl | exact Or.inr rfl))
      (psd_one (psd_ret (pd_call G_only_used (hr.mono (by decide)) (by rfl) D_only_used.mg D_only_used.fn.kp D_only_used.bi (pad_cons (pd_var 4) (pad_cons (pd_ix (pd_var 3) (pd_neg pd_int)) pad_nil))))))))
theorem sc__law_holds : FnScope ["_law_rows_here", "_law_width_here", "_law_found"] ["_law_rows_here", "_law_width_here"] (defScope s__law_holds) := ⟨rfl, rfl, rfl, by decide +kernel, rfl, by decide +kernel, by decide +kernel⟩
theorem ok__law_holds {f__law_holds : Addr} {fd__law_holds : FuncData} (D__law_holds : Def1 K mg "_law_holds" s__law_holds f__law_holds fd__law_holds ["_law_rows_here", "_law_width_here"]) {f__law_fine : Addr} {fd__law_fine : FuncData} (D__law_fine : Def1 K mg "_law_fine" s__law_fine f__law_fine fd__law_fine ["_law_rows_here", "_law_width_here", "_law_most"]) (G__law_fine : FnOk P w K mg base CX0 3 f__law_fine fd__law_fine ["_law_rows_here", "_law_width_here", "_law_most"] (spD K F__law_fine)) {f__law_formed : Addr} {fd__law_formed : FuncData} (D__law_formed : Def1 K mg "_law_formed" s__law_formed f__law_formed fd__law_formed ["_law_rows_here", "_law_width_here"]) (G__law_formed : FnOk P w K mg base CX0 2 f__law_formed fd__law_formed ["_law_rows_here", "_law_width_here"] (spD K F__law_formed)) {f_fewer : Addr} {fd_fewer : FuncData} (D_fewer : Def1 K mg "fewer" s_fewer f_fewer fd_fewer ["width", "rows"]) (G_fewer : FnOk P w K mg base CX0 4 f_fewer fd_fewer ["width", "rows"] (spD K F_fewer)) (z_len : mg "len" = none) (z_list : mg "list" = none) :
    FnOk P w K mg base CX0 5 f__law_holds fd__law_holds ["_law_rows_here", "_law_width_here"] (spD K F__law_holds) := by
  refine fnD D__law_holds.fn sc__law_holds fun cdv A outer s H E hr => ?_
  exact (psd_cons (psd_set (i := 2) sc__law_holds.nd rfl (by first | exact Or.inl rfl | exact Or.inr rfl) (PD.fz (pd_call G_fewer (hr.mono (by decide)) (by rfl) D_fewer.mg D_fewer.fn.kp D_fewer.bi (pad_cons (pd_var 1) (pad_cons (pd_list (pd_var 0) (by rfl) z_list bo_list) pad_nil)))))
      (psd_one (psd_ret (pd_and (pd_call G__law_fine (hr.mono (by decide)) (by rfl) D__law_fine.mg D__law_fine.fn.kp D__law_fine.bi (pad_cons (pd_var 2) (pad_cons (pd_var 1) (pad_cons (pd_bi call_len cs_len (by rfl) z_len bo_len (pad_cons (pd_var 0) pad_nil)) pad_nil)))) (pd_one (pd_call G__law_formed (hr.mono (by decide)) (by rfl) D__law_formed.mg D__law_formed.fn.kp D__law_formed.bi (pad_cons (pd_var 2) (pad_cons (pd_var 1) pad_nil))))))))
theorem sc__law_deed : FnScope ["_law_number", "_law_width_here", "_law_ahead", "_law_way", "_law_one", "_law_rest", "_law_some", "_law_word_here"] ["_law_number", "_law_width_here", "_law_ahead"] (defScope s__law_deed) := ⟨rfl, rfl, rfl, by decide +kernel, rfl, by decide +kernel, by decide +kernel⟩
theorem ok__law_deed {f__law_deed : Addr} {fd__law_deed : FuncData} (D__law_deed : Def1 K mg "_law_deed" s__law_deed f__law_deed fd__law_deed ["_law_number", "_law_width_here", "_law_ahead"]) (z_min : mg "min" = none) :
    FnOk P w K mg base CX0 1 f__law_deed fd__law_deed ["_law_number", "_law_width_here", "_law_ahead"] (spD K F__law_deed) := by
  refine fnD D__law_deed.fn sc__law_deed fun cdv A outer s H E hr => ?_
  exact (psd_cons (psd_set (i := 3) sc__law_deed.nd rfl (by first | exact Or.inl rfl | exact Or.inr rfl) (pd_mod (pd_var 0) pd_int))
      (psd_cons (psd_set (i := 4) sc__law_deed.nd rfl (by first | exact Or.inl rfl | exact Or.inr rfl) (pd_sub (pd_sub (pd_var 2) pd_int) (pd_mod (pd_div (pd_var 0) pd_int) (pd_ix (pd_lst (pad_cons (pd_var 2) (pad_cons (pd_bi (call_min2 rfl) cs_min (by rfl) z_min bo_min (pad_cons (pd_var 2) (pad_cons pd_int pad_nil))) pad_nil))) (pd_mod (pd_div (pd_var 0) pd_int) pd_int)))))
      (psd_cons (psd_set (i := 5) sc__law_deed.nd rfl (by first | exact Or.inl rfl | exact Or.inr rfl) (pd_div (pd_var 0) pd_int))
      (psd_cons (psd_if (pt_lt (pd_var 3) pd_int)
      (psd_cons (psd_set (i := 6) sc__law_deed.nd rfl (by first | exact Or.inl rfl | exact Or.inr rfl) (PD.fz (pd_lst (pad_cons (pd_div (pd_var 5) pd_int) (pad_cons (pd_div (pd_var 5) pd_int) (pad_cons pd_int (pad_cons (pd_neg pd_int) (pad_cons (pd_mod (pd_div (pd_var 5) pd_int) pd_int) (pad_cons (pd_sub (pd_neg pd_int) (pd_mod (pd_div (pd_var 5) pd_int) pd_int)) (pad_cons (pd_shl pd_int (pd_mod (pd_div (pd_var 5) pd_int) (pd_var 1))) (pad_cons (pd_div (pd_var 5) pd_int) pad_nil)))))))))))
      (psd_cons (psd_set (i := 7) sc__law_deed.nd rfl (by first | exact Or.inl rfl | exact Or.inr rfl) (pd_mod (pd_ix (pd_var 6) (pd_mod (pd_var 5) pd_int)) (pd_shl pd_int (pd_var 1))))
      (psd_one (psd_ret (pd_ix (pd_lst (pad_cons (pd_tup (pad_cons pd_str (pad_cons (pd_var 7) pad_nil))) (pad_cons (pd_tup (pad_cons pd_str (pad_cons (pd_var 4) (pad_cons (pd_var 7) pad_nil)))) (pad_cons (pd_tup (pad_cons pd_str (pad_cons (pd_var 4) (pad_cons (pd_var 7) pad_nil)))) pad_nil)))) (pd_div (pd_add (pd_var 3) pd_int) pd_int))))))
      psd_nil)
      (psd_cons (psd_if (pt_lt (pd_var 3) pd_int)
      (psd_one (psd_ret (pd_tup (pad_cons pd_str (pad_cons (pd_var 4) (pad_cons (pd_mod (pd_var 5) (pd_var 2)) pad_nil))))))
      psd_nil)
      (psd_one (psd_ret (pd_tup (pad_cons (pd_ix (pd_lst (pad_cons pd_str (pad_cons pd_str pad_nil))) (pd_mod (pd_var 3) pd_int)) (pad_cons (pd_var 4) (pad_cons (pd_ix (pd_lst (pad_cons (pd_mod (pd_div (pd_var 5) pd_int) (pd_add (pd_var 1) pd_int)) (pad_cons pd_int (pad_cons (pd_div (pd_mul (pd_mod (pd_div (pd_var 5) pd_int) pd_int) (pd_var 1)) pd_int) pad_nil)))) (pd_mod (pd_var 5) pd_int)) pad_nil)))))))))))
theorem sc__law_rows : FnScope ["_law_width_here", "_law_numbers", "_law_rows_here", "_law_number", "_law_row"] ["_law_width_here", "_law_numbers"] (defScope s__law_rows) := ⟨rfl, rfl, rfl, by decide +kernel, rfl, by decide +kernel, by decide +kernel⟩
theorem ok__law_rows {f__law_rows : Addr} {fd__law_rows : FuncData} (D__law_rows : Def1 K mg "_law_rows" s__law_rows f__law_rows fd__law_rows ["_law_width_here", "_law_numbers"]) {f__law_deed : Addr} {fd__law_deed : FuncData} (D__law_deed : Def1 K mg "_law_deed" s__law_deed f__law_deed fd__law_deed ["_law_number", "_law_width_here", "_law_ahead"]) (G__law_deed : FnOk P w K mg base CX0 1 f__law_deed fd__law_deed ["_law_number", "_law_width_here", "_law_ahead"] (spD K F__law_deed)) (z_len : mg "len" = none) :
    FnOk P w K mg base CX0 2 f__law_rows fd__law_rows ["_law_width_here", "_law_numbers"] (spD K F__law_rows) := by
  refine fnD D__law_rows.fn sc__law_rows fun cdv A outer s H E hr => ?_
  exact (psd_cons (psd_set (i := 2) sc__law_rows.nd rfl (by first | exact Or.inl rfl | exact Or.inr rfl) (pd_lst pad_nil))
      (psd_cons (psd_for PassesOwn.never rfl (pi_s (pd_var 1)) (pg_n 3 sc__law_rows.nd)
      (psd_one (psd_if (PWD.t (pwd_and (pt_eq hr.units (pd_mod (pd_var 3) pd_int) pd_int) (pw1_and (pt_gt (pd_bi call_len cs_len (by rfl) z_len bo_len (pad_cons (pd_var 2) pad_nil)) pd_int))))
      (psd_cons (psd_set (i := 4) sc__law_rows.nd rfl (by first | exact Or.inl rfl | exact Or.inr rfl) (PD.fz (pd_ix (pd_var 2) (pd_mod (pd_div (pd_var 3) pd_int) (pd_bi call_len cs_len (by rfl) z_len bo_len (pad_cons (pd_var 2) pad_nil))))))
      (psd_cons (psd_if (pt_eq hr.units (pd_ix (pd_var 4) pd_int) pd_str)
      (psd_one (psd_set (i := 4) sc__law_rows.nd rfl (by first | exact Or.inl rfl | exact Or.inr rfl) (PD.fz (pd_tup (pad_cons pd_str (pad_cons (pd_ix (pd_var 4) pd_int) (pad_cons (pd_ix (pd_var 4) pd_int) pad_nil)))))))
      psd_nil)
      (psd_one (psd_app 2 (pv 2) (pd_var 4)))))
      (psd_one (psd_app 2 (pv 2) (pd_call G__law_deed (hr.mono (by decide)) (by rfl) D__law_deed.mg D__law_deed.fn.kp D__law_deed.bi (pad_cons (pd_div (pd_var 3) pd_int) (pad_cons (pd_var 0) (pad_cons (pd_add (pd_bi call_len cs_len (by rfl) z_len bo_len (pad_cons (pd_var 2) pad_nil)) pd_int) pad_nil)))))))))
      (psd_one (psd_ret (pd_var 2)))))
theorem sc__law_width : FnScope ["_law_cell"] ["_law_cell"] (defScope s__law_width) := ⟨rfl, rfl, rfl, by decide +kernel, rfl, by decide +kernel, by decide +kernel⟩
theorem ok__law_width {f__law_width : Addr} {fd__law_width : FuncData} (D__law_width : Def1 K mg "_law_width" s__law_width f__law_width fd__law_width ["_law_cell"]) :
    FnOk P w K mg base CX0 1 f__law_width fd__law_width ["_law_cell"] (spD K F__law_width) := by
  refine fnD D__law_width.fn sc__law_width fun cdv A outer s H E hr => ?_
  exact (psd_one (psd_ret (pd_ix (pd_lst (pad_cons pd_int (pad_cons pd_int (pad_cons pd_int (pad_cons pd_int (pad_cons pd_int (pad_cons pd_int (pad_cons pd_int (pad_cons pd_int (pad_cons pd_int (pad_cons pd_int (pad_cons pd_int pad_nil)))))))))))) (pd_mod (pd_var 0) pd_int))))
theorem sc_law : FnScope ["_law_script", "_law_width_here", "_law_cells", "_law_rows_here", "_law_at_here", "_law_row"] ["_law_script"] (defScope s_law) := ⟨rfl, rfl, rfl, by decide +kernel, rfl, by decide +kernel, by decide +kernel⟩
theorem ok_law {f_law : Addr} {fd_law : FuncData} (D_law : Def1 K mg "law" s_law f_law fd_law ["_law_script"]) {f__law_at : Addr} {fd__law_at : FuncData} (D__law_at : Def1 K mg "_law_at" s__law_at f__law_at fd__law_at ["_law_script", "_law_k"]) (G__law_at : FnOk P w K mg base CX0 1 f__law_at fd__law_at ["_law_script", "_law_k"] (spD K F__law_at)) {f__law_big : Addr} {fd__law_big : FuncData} (D__law_big : Def1 K mg "_law_big" s__law_big f__law_big fd__law_big ["_law_cell", "_law_k"]) (G__law_big : FnOk P w K mg base CX0 2 f__law_big fd__law_big ["_law_cell", "_law_k"] (spD K F__law_big)) {f__law_doubled : Addr} {fd__law_doubled : FuncData} (D__law_doubled : Def1 K mg "_law_doubled" s__law_doubled f__law_doubled fd__law_doubled ["_law_rows_here"]) (G__law_doubled : FnOk P w K mg base CX0 2 f__law_doubled fd__law_doubled ["_law_rows_here"] (spD K F__law_doubled)) {f__law_holds : Addr} {fd__law_holds : FuncData} (D__law_holds : Def1 K mg "_law_holds" s__law_holds f__law_holds fd__law_holds ["_law_rows_here", "_law_width_here"]) (G__law_holds : FnOk P w K mg base CX0 5 f__law_holds fd__law_holds ["_law_rows_here", "_law_width_here"] (spD K F__law_holds)) {f__law_rows : Addr} {fd__law_rows : FuncData} (D__law_rows : Def1 K mg "_law_rows" s__law_rows f__law_rows fd__law_rows ["_law_width_here", "_law_numbers"]) (G__law_rows : FnOk P w K mg base CX0 2 f__law_rows fd__law_rows ["_law_width_here", "_law_numbers"] (spD K F__law_rows)) {f__law_width : Addr} {fd__law_width : FuncData} (D__law_width : Def1 K mg "_law_width" s__law_width f__law_width fd__law_width ["_law_cell"]) (G__law_width : FnOk P w K mg base CX0 1 f__law_width fd__law_width ["_law_cell"] (spD K F__law_width)) (z_len : mg "len" = none) (z_range : mg "range" = none) :
    FnOk P w K mg base CX0 6 f_law fd_law ["_law_script"] (spD K F_law) := by
  refine fnD D_law.fn sc_law fun cdv A outer s H E hr => ?_
  exact (psd_cons (psd_set (i := 1) sc_law.nd rfl (by first | exact Or.inl rfl | exact Or.inr rfl) (PD.fz (pd_call G__law_width (hr.mono (by decide)) (by rfl) D__law_width.mg D__law_width.fn.kp D__law_width.bi (pad_cons (pd_call G__law_at (hr.mono (by decide)) (by rfl) D__law_at.mg D__law_at.fn.kp D__law_at.bi (pad_cons (pd_var 0) (pad_cons pd_int pad_nil))) pad_nil))))
      (psd_cons (psd_set (i := 2) sc_law.nd rfl (by first | exact Or.inl rfl | exact Or.inr rfl) (PD.fz (pd_sl (pd_var 0) (po_at pd_int) (po_at pd_int))))
      (psd_cons (psd_set (i := 3) sc_law.nd rfl (by first | exact Or.inl rfl | exact Or.inr rfl) (PD.fz (pd_call G__law_rows (hr.mono (by decide)) (by rfl) D__law_rows.mg D__law_rows.fn.kp D__law_rows.bi (pad_cons (pd_var 1) (pad_cons (pd_comp rfl (compOk_mk (N := ["_law_script", "_law_width_here", "_law_cells", "_law_rows_here", "_law_at_here", "_law_row"]) (sc := defScope s_law) (N' := ["_law_k", "_law_script", "_law_width_here", "_law_cells", "_law_rows_here", "_law_at_here", "_law_row"]) (ix := [none, some 0, some 1, some 2, some 3, some 4, some 5]) (by decide +kernel)) (inj_of (by decide +kernel)) (own_of (t := (.nm 0)) (by decide +kernel)) (pi_r (pd_bi call_len cs_len (by rfl) z_len bo_len (pad_cons (pd_var 2) pad_nil)) (by rfl) z_range) (fun _ _ _ _ => (pg_n 0 (nd_of (N := ["_law_k", "_law_script", "_law_width_here", "_law_cells", "_law_rows_here", "_law_at_here", "_law_row"]) (by decide +kernel)))) (fun _ _ _ _ => (pd_call G__law_big (hr.mono (by decide)) (by rfl) D__law_big.mg D__law_big.fn.kp D__law_big.bi (pad_cons (pd_add (pd_ix (pd_var 3) (pd_var 0)) (pd_call G__law_at (hr.mono (by decide)) (by rfl) D__law_at.mg D__law_at.fn.kp D__law_at.bi (pad_cons (pd_var 1) (pad_cons pd_int pad_nil)))) (pad_cons (pd_var 0) pad_nil))))) pad_nil)))))
      (psd_cons (psd_if (PWD.t (pwd_or (ptd_not (pt_of (pd_call G__law_holds (hr.mono (by decide)) (by rfl) D__law_holds.mg D__law_holds.fn.kp D__law_holds.bi (pad_cons (pd_var 3) (pad_cons (pd_var 1) pad_nil))))) (pw1_or (ptd_not (pt_of (pd_call G__law_holds (hr.mono (by decide)) (by rfl) D__law_holds.mg D__law_holds.fn.kp D__law_holds.bi (pad_cons (pd_call G__law_doubled (hr.mono (by decide)) (by rfl) D__law_doubled.mg D__law_doubled.fn.kp D__law_doubled.bi (pad_cons (pd_var 3) pad_nil)) (pad_cons (pd_var 1) pad_nil))))))))
      (psd_one (psd_ret pd_bl))
      psd_nil)
      (psd_cons (psd_set (i := 4) sc_law.nd rfl (by first | exact Or.inl rfl | exact Or.inr rfl) (pd_mod (pd_call G__law_at (hr.mono (by decide)) (by rfl) D__law_at.mg D__law_at.fn.kp D__law_at.bi (pad_cons (pd_var 0) (pad_cons pd_int pad_nil))) (pd_add (pd_bi call_len cs_len (by rfl) z_len bo_len (pad_cons (pd_var 3) pad_nil)) pd_int)))
      (psd_cons (psd_for PassesOwn.never rfl (pi_l (pd_lst (pad_cons (pd_tup (pad_cons pd_str (pad_cons (pd_var 4) (pad_cons pd_int pad_nil)))) (pad_cons (pd_tup (pad_cons pd_str (pad_cons (pd_var 4) (pad_cons (pd_sub (pd_shl pd_int (pd_var 1)) pd_int) pad_nil)))) (pad_cons (pd_tup (pad_cons pd_str (pad_cons (pd_var 4) (pad_cons pd_int pad_nil)))) (pad_cons (pd_tup (pad_cons pd_str (pad_cons (pd_var 4) (pad_cons (pd_var 1) pad_nil)))) (pad_cons (pd_tup (pad_cons pd_str (pad_cons (pd_var 4) (pad_cons (pd_var 4) pad_nil)))) pad_nil))))))) (pg_n 5 sc_law.nd)
      (psd_one (psd_if (ptd_not (pt_of (pd_call G__law_holds (hr.mono (by decide)) (by rfl) D__law_holds.mg D__law_holds.fn.kp D__law_holds.bi (pad_cons (pd_cat (pd_var 3) (pd_lst (pad_cons (pd_var 5) pad_nil))) (pad_cons (pd_var 1) pad_nil)))))
      (psd_one (psd_ret pd_bl))
      psd_nil)))
      (psd_one (psd_ret pd_bl))))))))
theorem ok_all {f__law_at : Addr} {fd__law_at : FuncData} (D__law_at : Def1 K mg "_law_at" s__law_at f__law_at fd__law_at ["_law_script", "_law_k"]) {f__law_mixed : Addr} {fd__law_mixed : FuncData} (D__law_mixed : Def1 K mg "_law_mixed" s__law_mixed f__law_mixed fd__law_mixed ["_law_cell", "_law_k"]) {f__law_big : Addr} {fd__law_big : FuncData} (D__law_big : Def1 K mg "_law_big" s__law_big f__law_big fd__law_big ["_law_cell", "_law_k"]) {f__law_twice : Addr} {fd__law_twice : FuncData} (D__law_twice : Def1 K mg "_law_twice" s__law_twice f__law_twice fd__law_twice ["_law_row"]) {f__law_doubled : Addr} {fd__law_doubled : FuncData} (D__law_doubled : Def1 K mg "_law_doubled" s__law_doubled f__law_doubled fd__law_doubled ["_law_rows_here"]) {f__law_whole : Addr} {fd__law_whole : FuncData} (D__law_whole : Def1 K mg "_law_whole" s__law_whole f__law_whole fd__law_whole ["_law_found"]) {f__law_fine_row : Addr} {fd__law_fine_row : FuncData} (D__law_fine_row : Def1 K mg "_law_fine_row" s__law_fine_row f__law_fine_row fd__law_fine_row ["_law_row", "_law_width_here", "_law_ahead"]) {f__law_fine : Addr} {fd__law_fine : FuncData} (D__law_fine : Def1 K mg "_law_fine" s__law_fine f__law_fine fd__law_fine ["_law_rows_here", "_law_width_here", "_law_most"]) {f__law_idle : Addr} {fd__law_idle : FuncData} (D__law_idle : Def1 K mg "_law_idle" s__law_idle f__law_idle fd__law_idle ["_law_row", "_law_width_here"]) {f__law_key : Addr} {fd__law_key : FuncData} (D__law_key : Def1 K mg "_law_key" s__law_key f__law_key fd__law_key ["_law_row"]) {f__law_own : Addr} {fd__law_own : FuncData} (D__law_own : Def1 K mg "_law_own" s__law_own f__law_own fd__law_own ["_law_row"]) {f__law_formed : Addr} {fd__law_formed : FuncData} (D__law_formed : Def1 K mg "_law_formed" s__law_formed f__law_formed fd__law_formed ["_law_rows_here", "_law_width_here"]) {f_firsts_of : Addr} {fd_firsts_of : FuncData} (D_firsts_of : Def1 K mg "firsts_of" s_firsts_of f_firsts_of fd_firsts_of ["marks"]) {f_mark_of : Addr} {fd_mark_of : FuncData} (D_mark_of : Def1 K mg "mark_of" s_mark_of f_mark_of fd_mark_of ["made", "number"]) {f_made_by : Addr} {fd_made_by : FuncData} (D_made_by : Def1 K mg "made_by" s_made_by f_made_by fd_made_by ["deed", "made", "every"]) {f_values : Addr} {fd_values : FuncData} (D_values : Def1 K mg "values" s_values f_values fd_values ["width", "rows", "word"]) {f_marks_of : Addr} {fd_marks_of : FuncData} (D_marks_of : Def1 K mg "marks_of" s_marks_of f_marks_of fd_marks_of ["width", "rows"]) {f_renumbered : Addr} {fd_renumbered : FuncData} (D_renumbered : Def1 K mg "renumbered" s_renumbered f_renumbered fd_renumbered ["deed", "goes"]) {f_used_by : Addr} {fd_used_by : FuncData} (D_used_by : Def1 K mg "used_by" s_used_by f_used_by fd_used_by ["deed"]) {f_used_for : Addr} {fd_used_for : FuncData} (D_used_for : Def1 K mg "used_for" s_used_for f_used_for fd_used_for ["rows", "last"]) {f_only_used : Addr} {fd_only_used : FuncData} (D_only_used : Def1 K mg "only_used" s_only_used f_only_used fd_only_used ["rows", "last"]) {f_plain_of : Addr} {fd_plain_of : FuncData} (D_plain_of : Def1 K mg "plain_of" s_plain_of f_plain_of fd_plain_of ["deed", "mark", "first"]) {f_fewer : Addr} {fd_fewer : FuncData} (D_fewer : Def1 K mg "fewer" s_fewer f_fewer fd_fewer ["width", "rows"]) {f__law_holds : Addr} {fd__law_holds : FuncData} (D__law_holds : Def1 K mg "_law_holds" s__law_holds f__law_holds fd__law_holds ["_law_rows_here", "_law_width_here"]) {f__law_deed : Addr} {fd__law_deed : FuncData} (D__law_deed : Def1 K mg "_law_deed" s__law_deed f__law_deed fd__law_deed ["_law_number", "_law_width_here", "_law_ahead"]) {f__law_rows : Addr} {fd__law_rows : FuncData} (D__law_rows : Def1 K mg "_law_rows" s__law_rows f__law_rows fd__law_rows ["_law_width_here", "_law_numbers"]) {f__law_width : Addr} {fd__law_width : FuncData} (D__law_width : Def1 K mg "_law_width" s__law_width f__law_width fd__law_width ["_law_cell"]) {f_law : Addr} {fd_law : FuncData} (D_law : Def1 K mg "law" s_law f_law fd_law ["_law_script"]) (z_all : mg "all" = none) (z_bool : mg "bool" = none) (z_enumerate : mg "enumerate" = none) (z_int : mg "int" = none) (z_isinstance : mg "isinstance" = none) (z_len : mg "len" = none) (z_list : mg "list" = none) (z_max : mg "max" = none) (z_min : mg "min" = none) (z_range : mg "range" = none) (z_reversed : mg "reversed" = none) (z_str : mg "str" = none) (z_tuple : mg "tuple" = none) (z_zip : mg "zip" = none) :
    FnOk P w K mg base CX0 6 f_law fd_law ["_law_script"] (spD K F_law) := by
  have G__law_at := ok__law_at (P := P) (w := w) (base := base) D__law_at z_len
  have G__law_mixed := ok__law_mixed (P := P) (w := w) (base := base) D__law_mixed
  have G__law_big := ok__law_big (P := P) (w := w) (base := base) D__law_big D__law_mixed G__law_mixed
  have G__law_twice := ok__law_twice (P := P) (w := w) (base := base) D__law_twice
  have G__law_doubled := ok__law_doubled (P := P) (w := w) (base := base) D__law_doubled D__law_twice G__law_twice
  have G__law_whole := ok__law_whole (P := P) (w := w) (base := base) D__law_whole z_bool z_int z_isinstance
  have G__law_fine_row := ok__law_fine_row (P := P) (w := w) (base := base) D__law_fine_row D__law_whole G__law_whole z_isinstance z_len z_str z_tuple
  have G__law_fine := ok__law_fine (P := P) (w := w) (base := base) D__law_fine D__law_fine_row G__law_fine_row z_isinstance z_len z_list z_range
  have G__law_idle := ok__law_idle (P := P) (w := w) (base := base) D__law_idle
  have G__law_key := ok__law_key (P := P) (w := w) (base := base) D__law_key z_max z_min
  have G__law_own := ok__law_own (P := P) (w := w) (base := base) D__law_own
  have G__law_formed := ok__law_formed (P := P) (w := w) (base := base) D__law_formed D__law_idle G__law_idle D__law_key G__law_key D__law_own G__law_own z_len z_range z_reversed
  have G_firsts_of := ok_firsts_of (P := P) (w := w) (base := base) D_firsts_of z_enumerate
  have G_mark_of := ok_mark_of (P := P) (w := w) (base := base) D_mark_of z_tuple
  have G_made_by := ok_made_by (P := P) (w := w) (base := base) D_made_by
  have G_values := ok_values (P := P) (w := w) (base := base) D_values D_made_by G_made_by
  have G_marks_of := ok_marks_of (P := P) (w := w) (base := base) D_marks_of D_mark_of G_mark_of D_values G_values z_len z_range
  have G_renumbered := ok_renumbered (P := P) (w := w) (base := base) D_renumbered
  have G_used_by := ok_used_by (P := P) (w := w) (base := base) D_used_by
  have G_used_for := ok_used_for (P := P) (w := w) (base := base) D_used_for D_used_by G_used_by z_range
  have G_only_used := ok_only_used (P := P) (w := w) (base := base) D_only_used D_renumbered G_renumbered D_used_for G_used_for z_len z_range
  have G_plain_of := ok_plain_of (P := P) (w := w) (base := base) D_plain_of D_renumbered G_renumbered z_all
  have G_fewer := ok_fewer (P := P) (w := w) (base := base) D_fewer D_firsts_of G_firsts_of D_marks_of G_marks_of D_only_used G_only_used D_plain_of G_plain_of z_zip
  have G__law_holds := ok__law_holds (P := P) (w := w) (base := base) D__law_holds D__law_fine G__law_fine D__law_formed G__law_formed D_fewer G_fewer z_len z_list
  have G__law_deed := ok__law_deed (P := P) (w := w) (base := base) D__law_deed z_min
  have G__law_rows := ok__law_rows (P := P) (w := w) (base := base) D__law_rows D__law_deed G__law_deed z_len
  have G__law_width := ok__law_width (P := P) (w := w) (base := base) D__law_width
  exact ok_law D_law D__law_at G__law_at D__law_big G__law_big D__law_doubled G__law_doubled D__law_holds G__law_holds D__law_rows G__law_rows D__law_width G__law_width z_len z_range
end
theorem all_mk {l : PySem.W.OpenLaw} {w : World} {K : PySem.W.Frag} {h : Heap} {mg : Str → Option Value} {fa : Addr} (X : K.In h) (G : h.Ns mainGlobals mg) (hfa : mg "law" = some (.ref fa))
    {f__law_at : Addr} {oc__law_at kV__law_at dc__law_at pm__law_at cd__law_at ct__law_at : Value} {od__law_at an__law_at : Option Addr} {sl__law_at : Array (Option Value)} (a__law_at : PySem.W.nsIn K mainGlobals "_law_at" = some (some (.ref f__law_at))) (l__law_at : K.lookup f__law_at = some ⟨oc__law_at, od__law_at, .func (PySem.W.fnOf "_law_at" "_law_at" (defArgs s__law_at) (defBody s__law_at) (defScope s__law_at) .none kV__law_at dc__law_at pm__law_at an__law_at cd__law_at ct__law_at), sl__law_at⟩) (c__law_at : PySem.W.codeIn K cd__law_at "_law_at" = true) (k__law_at : PySem.W.keepIn K (.ref f__law_at) = true)
    {f__law_mixed : Addr} {oc__law_mixed kV__law_mixed dc__law_mixed pm__law_mixed cd__law_mixed ct__law_mixed : Value} {od__law_mixed an__law_mixed : Option Addr} {sl__law_mixed : Array (Option Value)} (a__law_mixed : PySem.W.nsIn K mainGlobals "_law_mixed" = some (some (.ref f__law_mixed))) (l__law_mixed : K.lookup f__law_mixed = some ⟨oc__law_mixed, od__law_mixed, .func (PySem.W.fnOf "_law_mixed" "_law_mixed" (defArgs s__law_mixed) (defBody s__law_mixed) (defScope s__law_mixed) .none kV__law_mixed dc__law_mixed pm__law_mixed an__law_mixed cd__law_mixed ct__law_mixed), sl__law_mixed⟩) (c__law_mixed : PySem.W.codeIn K cd__law_mixed "_law_mixed" = true) (k__law_mixed : PySem.W.keepIn K (.ref f__law_mixed) = true)
    {f__law_big : Addr} {oc__law_big kV__law_big dc__law_big pm__law_big cd__law_big ct__law_big : Value} {od__law_big an__law_big : Option Addr} {sl__law_big : Array (Option Value)} (a__law_big : PySem.W.nsIn K mainGlobals "_law_big" = some (some (.ref f__law_big))) (l__law_big : K.lookup f__law_big = some ⟨oc__law_big, od__law_big, .func (PySem.W.fnOf "_law_big" "_law_big" (defArgs s__law_big) (defBody s__law_big) (defScope s__law_big) .none kV__law_big dc__law_big pm__law_big an__law_big cd__law_big ct__law_big), sl__law_big⟩) (c__law_big : PySem.W.codeIn K cd__law_big "_law_big" = true) (k__law_big : PySem.W.keepIn K (.ref f__law_big) = true)
    {f__law_twice : Addr} {oc__law_twice kV__law_twice dc__law_twice pm__law_twice cd__law_twice ct__law_twice : Value} {od__law_twice an__law_twice : Option Addr} {sl__law_twice : Array (Option Value)} (a__law_twice : PySem.W.nsIn K mainGlobals "_law_twice" = some (some (.ref f__law_twice))) (l__law_twice : K.lookup f__law_twice = some ⟨oc__law_twice, od__law_twice, .func (PySem.W.fnOf "_law_twice" "_law_twice" (defArgs s__law_twice) (defBody s__law_twice) (defScope s__law_twice) .none kV__law_twice dc__law_twice pm__law_twice an__law_twice cd__law_twice ct__law_twice), sl__law_twice⟩) (c__law_twice : PySem.W.codeIn K cd__law_twice "_law_twice" = true) (k__law_twice : PySem.W.keepIn K (.ref f__law_twice) = true)
    {f__law_doubled : Addr} {oc__law_doubled kV__law_doubled dc__law_doubled pm__law_doubled cd__law_doubled ct__law_doubled : Value} {od__law_doubled an__law_doubled : Option Addr} {sl__law_doubled : Array (Option Value)} (a__law_doubled : PySem.W.nsIn K mainGlobals "_law_doubled" = some (some (.ref f__law_doubled))) (l__law_doubled : K.lookup f__law_doubled = some ⟨oc__law_doubled, od__law_doubled, .func (PySem.W.fnOf "_law_doubled" "_law_doubled" (defArgs s__law_doubled) (defBody s__law_doubled) (defScope s__law_doubled) .none kV__law_doubled dc__law_doubled pm__law_doubled an__law_doubled cd__law_doubled ct__law_doubled), sl__law_doubled⟩) (c__law_doubled : PySem.W.codeIn K cd__law_doubled "_law_doubled" = true) (k__law_doubled : PySem.W.keepIn K (.ref f__law_doubled) = true)
    {f__law_whole : Addr} {oc__law_whole kV__law_whole dc__law_whole pm__law_whole cd__law_whole ct__law_whole : Value} {od__law_whole an__law_whole : Option Addr} {sl__law_whole : Array (Option Value)} (a__law_whole : PySem.W.nsIn K mainGlobals "_law_whole" = some (some (.ref f__law_whole))) (l__law_whole : K.lookup f__law_whole = some ⟨oc__law_whole, od__law_whole, .func (PySem.W.fnOf "_law_whole" "_law_whole" (defArgs s__law_whole) (defBody s__law_whole) (defScope s__law_whole) .none kV__law_whole dc__law_whole pm__law_whole an__law_whole cd__law_whole ct__law_whole), sl__law_whole⟩) (c__law_whole : PySem.W.codeIn K cd__law_whole "_law_whole" = true) (k__law_whole : PySem.W.keepIn K (.ref f__law_whole) = true)
    {f__law_fine_row : Addr} {oc__law_fine_row kV__law_fine_row dc__law_fine_row pm__law_fine_row cd__law_fine_row ct__law_fine_row : Value} {od__law_fine_row an__law_fine_row : Option Addr} {sl__law_fine_row : Array (Option Value)} (a__law_fine_row : PySem.W.nsIn K mainGlobals "_law_fine_row" = some (some (.ref f__law_fine_row))) (l__law_fine_row : K.lookup f__law_fine_row = some ⟨oc__law_fine_row, od__law_fine_row, .func (PySem.W.fnOf "_law_fine_row" "_law_fine_row" (defArgs s__law_fine_row) (defBody s__law_fine_row) (defScope s__law_fine_row) .none kV__law_fine_row dc__law_fine_row pm__law_fine_row an__law_fine_row cd__law_fine_row ct__law_fine_row), sl__law_fine_row⟩) (c__law_fine_row : PySem.W.codeIn K cd__law_fine_row "_law_fine_row" = true) (k__law_fine_row : PySem.W.keepIn K (.ref f__law_fine_row) = true)
    {f__law_fine : Addr} {oc__law_fine kV__law_fine dc__law_fine pm__law_fine cd__law_fine ct__law_fine : Value} {od__law_fine an__law_fine : Option Addr} {sl__law_fine : Array (Option Value)} (a__law_fine : PySem.W.nsIn K mainGlobals "_law_fine" = some (some (.ref f__law_fine))) (l__law_fine : K.lookup f__law_fine = some ⟨oc__law_fine, od__law_fine, .func (PySem.W.fnOf "_law_fine" "_law_fine" (defArgs s__law_fine) (defBody s__law_fine) (defScope s__law_fine) .none kV__law_fine dc__law_fine pm__law_fine an__law_fine cd__law_fine ct__law_fine), sl__law_fine⟩) (c__law_fine : PySem.W.codeIn K cd__law_fine "_law_fine" = true) (k__law_fine : PySem.W.keepIn K (.ref f__law_fine) = true)
    {f__law_idle : Addr} {oc__law_idle kV__law_idle dc__law_idle pm__law_idle cd__law_idle ct__law_idle : Value} {od__law_idle an__law_idle : Option Addr} {sl__law_idle : Array (Option Value)} (a__law_idle : PySem.W.nsIn K mainGlobals "_law_idle" = some (some (.ref f__law_idle))) (l__law_idle : K.lookup f__law_idle = some ⟨oc__law_idle, od__law_idle, .func (PySem.W.fnOf "_law_idle" "_law_idle" (defArgs s__law_idle) (defBody s__law_idle) (defScope s__law_idle) .none kV__law_idle dc__law_idle pm__law_idle an__law_idle cd__law_idle ct__law_idle), sl__law_idle⟩) (c__law_idle : PySem.W.codeIn K cd__law_idle "_law_idle" = true) (k__law_idle : PySem.W.keepIn K (.ref f__law_idle) = true)
    {f__law_key : Addr} {oc__law_key kV__law_key dc__law_key pm__law_key cd__law_key ct__law_key : Value} {od__law_key an__law_key : Option Addr} {sl__law_key : Array (Option Value)} (a__law_key : PySem.W.nsIn K mainGlobals "_law_key" = some (some (.ref f__law_key))) (l__law_key : K.lookup f__law_key = some ⟨oc__law_key, od__law_key, .func (PySem.W.fnOf "_law_key" "_law_key" (defArgs s__law_key) (defBody s__law_key) (defScope s__law_key) .none kV__law_key dc__law_key pm__law_key an__law_key cd__law_key ct__law_key), sl__law_key⟩) (c__law_key : PySem.W.codeIn K cd__law_key "_law_key" = true) (k__law_key : PySem.W.keepIn K (.ref f__law_key) = true)
    {f__law_own : Addr} {oc__law_own kV__law_own dc__law_own pm__law_own cd__law_own ct__law_own : Value} {od__law_own an__law_own : Option Addr} {sl__law_own : Array (Option Value)} (a__law_own : PySem.W.nsIn K mainGlobals "_law_own" = some (some (.ref f__law_own))) (l__law_own : K.lookup f__law_own = some ⟨oc__law_own, od__law_own, .func (PySem.W.fnOf "_law_own" "_law_own" (defArgs s__law_own) (defBody s__law_own) (defScope s__law_own) .none kV__law_own dc__law_own pm__law_own an__law_own cd__law_own ct__law_own), sl__law_own⟩) (c__law_own : PySem.W.codeIn K cd__law_own "_law_own" = true) (k__law_own : PySem.W.keepIn K (.ref f__law_own) = true)
    {f__law_formed : Addr} {oc__law_formed kV__law_formed dc__law_formed pm__law_formed cd__law_formed ct__law_formed : Value} {od__law_formed an__law_formed : Option Addr} {sl__law_formed : Array (Option Value)} (a__law_formed : PySem.W.nsIn K mainGlobals "_law_formed" = some (some (.ref f__law_formed))) (l__law_formed : K.lookup f__law_formed = some ⟨oc__law_formed, od__law_formed, .func (PySem.W.fnOf "_law_formed" "_law_formed" (defArgs s__law_formed) (defBody s__law_formed) (defScope s__law_formed) .none kV__law_formed dc__law_formed pm__law_formed an__law_formed cd__law_formed ct__law_formed), sl__law_formed⟩) (c__law_formed : PySem.W.codeIn K cd__law_formed "_law_formed" = true) (k__law_formed : PySem.W.keepIn K (.ref f__law_formed) = true)
    {f_firsts_of : Addr} {oc_firsts_of kV_firsts_of dc_firsts_of pm_firsts_of cd_firsts_of ct_firsts_of : Value} {od_firsts_of an_firsts_of : Option Addr} {sl_firsts_of : Array (Option Value)} (a_firsts_of : PySem.W.nsIn K mainGlobals "firsts_of" = some (some (.ref f_firsts_of))) (l_firsts_of : K.lookup f_firsts_of = some ⟨oc_firsts_of, od_firsts_of, .func (PySem.W.fnOf "firsts_of" "firsts_of" (defArgs s_firsts_of) (defBody s_firsts_of) (defScope s_firsts_of) .none kV_firsts_of dc_firsts_of pm_firsts_of an_firsts_of cd_firsts_of ct_firsts_of), sl_firsts_of⟩) (c_firsts_of : PySem.W.codeIn K cd_firsts_of "firsts_of" = true) (k_firsts_of : PySem.W.keepIn K (.ref f_firsts_of) = true)
    {f_mark_of : Addr} {oc_mark_of kV_mark_of dc_mark_of pm_mark_of cd_mark_of ct_mark_of : Value} {od_mark_of an_mark_of : Option Addr} {sl_mark_of : Array (Option Value)} (a_mark_of : PySem.W.nsIn K mainGlobals "mark_of" = some (some (.ref f_mark_of))) (l_mark_of : K.lookup f_mark_of = some ⟨oc_mark_of, od_mark_of, .func (PySem.W.fnOf "mark_of" "mark_of" (defArgs s_mark_of) (defBody s_mark_of) (defScope s_mark_of) .none kV_mark_of dc_mark_of pm_mark_of an_mark_of cd_mark_of ct_mark_of), sl_mark_of⟩) (c_mark_of : PySem.W.codeIn K cd_mark_of "mark_of" = true) (k_mark_of : PySem.W.keepIn K (.ref f_mark_of) = true)
    {f_made_by : Addr} {oc_made_by kV_made_by dc_made_by pm_made_by cd_made_by ct_made_by : Value} {od_made_by an_made_by : Option Addr} {sl_made_by : Array (Option Value)} (a_made_by : PySem.W.nsIn K mainGlobals "made_by" = some (some (.ref f_made_by))) (l_made_by : K.lookup f_made_by = some ⟨oc_made_by, od_made_by, .func (PySem.W.fnOf "made_by" "made_by" (defArgs s_made_by) (defBody s_made_by) (defScope s_made_by) .none kV_made_by dc_made_by pm_made_by an_made_by cd_made_by ct_made_by), sl_made_by⟩) (c_made_by : PySem.W.codeIn K cd_made_by "made_by" = true) (k_made_by : PySem.W.keepIn K (.ref f_made_by) = true)
    {f_values : Addr} {oc_values kV_values dc_values pm_values cd_values ct_values : Value} {od_values an_values : Option Addr} {sl_values : Array (Option Value)} (a_values : PySem.W.nsIn K mainGlobals "values" = some (some (.ref f_values))) (l_values : K.lookup f_values = some ⟨oc_values, od_values, .func (PySem.W.fnOf "values" "values" (defArgs s_values) (defBody s_values) (defScope s_values) .none kV_values dc_values pm_values an_values cd_values ct_values), sl_values⟩) (c_values : PySem.W.codeIn K cd_values "values" = true) (k_values : PySem.W.keepIn K (.ref f_values) = true)
    {f_marks_of : Addr} {oc_marks_of kV_marks_of dc_marks_of pm_marks_of cd_marks_of ct_marks_of : Value} {od_marks_of an_marks_of : Option Addr} {sl_marks_of : Array (Option Value)} (a_marks_of : PySem.W.nsIn K mainGlobals "marks_of" = some (some (.ref f_marks_of))) (l_marks_of : K.lookup f_marks_of = some ⟨oc_marks_of, od_marks_of, .func (PySem.W.fnOf "marks_of" "marks_of" (defArgs s_marks_of) (defBody s_marks_of) (defScope s_marks_of) .none kV_marks_of dc_marks_of pm_marks_of an_marks_of cd_marks_of ct_marks_of), sl_marks_of⟩) (c_marks_of : PySem.W.codeIn K cd_marks_of "marks_of" = true) (k_marks_of : PySem.W.keepIn K (.ref f_marks_of) = true)
    {f_renumbered : Addr} {oc_renumbered kV_renumbered dc_renumbered pm_renumbered cd_renumbered ct_renumbered : Value} {od_renumbered an_renumbered : Option Addr} {sl_renumbered : Array (Option Value)} (a_renumbered : PySem.W.nsIn K mainGlobals "renumbered" = some (some (.ref f_renumbered))) (l_renumbered : K.lookup f_renumbered = some ⟨oc_renumbered, od_renumbered, .func (PySem.W.fnOf "renumbered" "renumbered" (defArgs s_renumbered) (defBody s_renumbered) (defScope s_renumbered) .none kV_renumbered dc_renumbered pm_renumbered an_renumbered cd_renumbered ct_renumbered), sl_renumbered⟩) (c_renumbered : PySem.W.codeIn K cd_renumbered "renumbered" = true) (k_renumbered : PySem.W.keepIn K (.ref f_renumbered) = true)
    {f_used_by : Addr} {oc_used_by kV_used_by dc_used_by pm_used_by cd_used_by ct_used_by : Value} {od_used_by an_used_by : Option Addr} {sl_used_by : Array (Option Value)} (a_used_by : PySem.W.nsIn K mainGlobals "used_by" = some (some (.ref f_used_by))) (l_used_by : K.lookup f_used_by = some ⟨oc_used_by, od_used_by, .func (PySem.W.fnOf "used_by" "used_by" (defArgs s_used_by) (defBody s_used_by) (defScope s_used_by) .none kV_used_by dc_used_by pm_used_by an_used_by cd_used_by ct_used_by), sl_used_by⟩) (c_used_by : PySem.W.codeIn K cd_used_by "used_by" = true) (k_used_by : PySem.W.keepIn K (.ref f_used_by) = true)
    {f_used_for : Addr} {oc_used_for kV_used_for dc_used_for pm_used_for cd_used_for ct_used_for : Value} {od_used_for an_used_for : Option Addr} {sl_used_for : Array (Option Value)} (a_used_for : PySem.W.nsIn K mainGlobals "used_for" = some (some (.ref f_used_for))) (l_used_for : K.lookup f_used_for = some ⟨oc_used_for, od_used_for, .func (PySem.W.fnOf "used_for" "used_for" (defArgs s_used_for) (defBody s_used_for) (defScope s_used_for) .none kV_used_for dc_used_for pm_used_for an_used_for cd_used_for ct_used_for), sl_used_for⟩) (c_used_for : PySem.W.codeIn K cd_used_for "used_for" = true) (k_used_for : PySem.W.keepIn K (.ref f_used_for) = true)
    {f_only_used : Addr} {oc_only_used kV_only_used dc_only_used pm_only_used cd_only_used ct_only_used : Value} {od_only_used an_only_used : Option Addr} {sl_only_used : Array (Option Value)} (a_only_used : PySem.W.nsIn K mainGlobals "only_used" = some (some (.ref f_only_used))) (l_only_used : K.lookup f_only_used = some ⟨oc_only_used, od_only_used, .func (PySem.W.fnOf "only_used" "only_used" (defArgs s_only_used) (defBody s_only_used) (defScope s_only_used) .none kV_only_used dc_only_used pm_only_used an_only_used cd_only_used ct_only_used), sl_only_used⟩) (c_only_used : PySem.W.codeIn K cd_only_used "only_used" = true) (k_only_used : PySem.W.keepIn K (.ref f_only_used) = true)
    {f_plain_of : Addr} {oc_plain_of kV_plain_of dc_plain_of pm_plain_of cd_plain_of ct_plain_of : Value} {od_plain_of an_plain_of : Option Addr} {sl_plain_of : Array (Option Value)} (a_plain_of : PySem.W.nsIn K mainGlobals "plain_of" = some (some (.ref f_plain_of))) (l_plain_of : K.lookup f_plain_of = some ⟨oc_plain_of, od_plain_of, .func (PySem.W.fnOf "plain_of" "plain_of" (defArgs s_plain_of) (defBody s_plain_of) (defScope s_plain_of) .none kV_plain_of dc_plain_of pm_plain_of an_plain_of cd_plain_of ct_plain_of), sl_plain_of⟩) (c_plain_of : PySem.W.codeIn K cd_plain_of "plain_of" = true) (k_plain_of : PySem.W.keepIn K (.ref f_plain_of) = true)
    {f_fewer : Addr} {oc_fewer kV_fewer dc_fewer pm_fewer cd_fewer ct_fewer : Value} {od_fewer an_fewer : Option Addr} {sl_fewer : Array (Option Value)} (a_fewer : PySem.W.nsIn K mainGlobals "fewer" = some (some (.ref f_fewer))) (l_fewer : K.lookup f_fewer = some ⟨oc_fewer, od_fewer, .func (PySem.W.fnOf "fewer" "fewer" (defArgs s_fewer) (defBody s_fewer) (defScope s_fewer) .none kV_fewer dc_fewer pm_fewer an_fewer cd_fewer ct_fewer), sl_fewer⟩) (c_fewer : PySem.W.codeIn K cd_fewer "fewer" = true) (k_fewer : PySem.W.keepIn K (.ref f_fewer) = true)
    {f__law_holds : Addr} {oc__law_holds kV__law_holds dc__law_holds pm__law_holds cd__law_holds ct__law_holds : Value} {od__law_holds an__law_holds : Option Addr} {sl__law_holds : Array (Option Value)} (a__law_holds : PySem.W.nsIn K mainGlobals "_law_holds" = some (some (.ref f__law_holds))) (l__law_holds : K.lookup f__law_holds = some ⟨oc__law_holds, od__law_holds, .func (PySem.W.fnOf "_law_holds" "_law_holds" (defArgs s__law_holds) (defBody s__law_holds) (defScope s__law_holds) .none kV__law_holds dc__law_holds pm__law_holds an__law_holds cd__law_holds ct__law_holds), sl__law_holds⟩) (c__law_holds : PySem.W.codeIn K cd__law_holds "_law_holds" = true) (k__law_holds : PySem.W.keepIn K (.ref f__law_holds) = true)
    {f__law_deed : Addr} {oc__law_deed kV__law_deed dc__law_deed pm__law_deed cd__law_deed ct__law_deed : Value} {od__law_deed an__law_deed : Option Addr} {sl__law_deed : Array (Option Value)} (a__law_deed : PySem.W.nsIn K mainGlobals "_law_deed" = some (some (.ref f__law_deed))) (l__law_deed : K.lookup f__law_deed = some ⟨oc__law_deed, od__law_deed, .func (PySem.W.fnOf "_law_deed" "_law_deed" (defArgs s__law_deed) (defBody s__law_deed) (defScope s__law_deed) .none kV__law_deed dc__law_deed pm__law_deed an__law_deed cd__law_deed ct__law_deed), sl__law_deed⟩) (c__law_deed : PySem.W.codeIn K cd__law_deed "_law_deed" = true) (k__law_deed : PySem.W.keepIn K (.ref f__law_deed) = true)
    {f__law_rows : Addr} {oc__law_rows kV__law_rows dc__law_rows pm__law_rows cd__law_rows ct__law_rows : Value} {od__law_rows an__law_rows : Option Addr} {sl__law_rows : Array (Option Value)} (a__law_rows : PySem.W.nsIn K mainGlobals "_law_rows" = some (some (.ref f__law_rows))) (l__law_rows : K.lookup f__law_rows = some ⟨oc__law_rows, od__law_rows, .func (PySem.W.fnOf "_law_rows" "_law_rows" (defArgs s__law_rows) (defBody s__law_rows) (defScope s__law_rows) .none kV__law_rows dc__law_rows pm__law_rows an__law_rows cd__law_rows ct__law_rows), sl__law_rows⟩) (c__law_rows : PySem.W.codeIn K cd__law_rows "_law_rows" = true) (k__law_rows : PySem.W.keepIn K (.ref f__law_rows) = true)
    {f__law_width : Addr} {oc__law_width kV__law_width dc__law_width pm__law_width cd__law_width ct__law_width : Value} {od__law_width an__law_width : Option Addr} {sl__law_width : Array (Option Value)} (a__law_width : PySem.W.nsIn K mainGlobals "_law_width" = some (some (.ref f__law_width))) (l__law_width : K.lookup f__law_width = some ⟨oc__law_width, od__law_width, .func (PySem.W.fnOf "_law_width" "_law_width" (defArgs s__law_width) (defBody s__law_width) (defScope s__law_width) .none kV__law_width dc__law_width pm__law_width an__law_width cd__law_width ct__law_width), sl__law_width⟩) (c__law_width : PySem.W.codeIn K cd__law_width "_law_width" = true) (k__law_width : PySem.W.keepIn K (.ref f__law_width) = true)
    {f_law : Addr} {oc_law kV_law dc_law pm_law cd_law ct_law : Value} {od_law an_law : Option Addr} {sl_law : Array (Option Value)} (a_law : PySem.W.nsIn K mainGlobals "law" = some (some (.ref f_law))) (l_law : K.lookup f_law = some ⟨oc_law, od_law, .func (PySem.W.fnOf "law" "law" (defArgs s_law) (defBody s_law) (defScope s_law) .none kV_law dc_law pm_law an_law cd_law ct_law), sl_law⟩) (c_law : PySem.W.codeIn K cd_law "law" = true) (k_law : PySem.W.keepIn K (.ref f_law) = true)
    (z_all : PySem.W.nsIn K mainGlobals "all" = some none)
    (z_bool : PySem.W.nsIn K mainGlobals "bool" = some none)
    (z_enumerate : PySem.W.nsIn K mainGlobals "enumerate" = some none)
    (z_int : PySem.W.nsIn K mainGlobals "int" = some none)
    (z_isinstance : PySem.W.nsIn K mainGlobals "isinstance" = some none)
    (z_len : PySem.W.nsIn K mainGlobals "len" = some none)
    (z_list : PySem.W.nsIn K mainGlobals "list" = some none)
    (z_max : PySem.W.nsIn K mainGlobals "max" = some none)
    (z_min : PySem.W.nsIn K mainGlobals "min" = some none)
    (z_range : PySem.W.nsIn K mainGlobals "range" = some none)
    (z_reversed : PySem.W.nsIn K mainGlobals "reversed" = some none)
    (z_str : PySem.W.nsIn K mainGlobals "str" = some none)
    (z_tuple : PySem.W.nsIn K mainGlobals "tuple" = some none)
    (z_zip : PySem.W.nsIn K mainGlobals "zip" = some none) :
    ∃ fd : FuncData, (∀ (s : Shared) (v : Value), BindsTo s fd ⟨[v], []⟩ [("_law_script", v)]) ∧ ∀ base : Heap, K.In base → base.Ns mainGlobals mg → FnOk l.prog w K mg base CX0 6 fa fd ["_law_script"] (spD K F_law) := by
  have e := hfa.symm.trans (PySem.W.mg_of X G a_law)
  cases e
  have D__law_at := Def1.mk' (st := s__law_at) (ps := ["_law_script", "_law_k"]) X G a__law_at l__law_at c__law_at k__law_at fun _ _ _ _ _ _ us hl => match us, hl with | [_, _], _ => rfl
  have D__law_mixed := Def1.mk' (st := s__law_mixed) (ps := ["_law_cell", "_law_k"]) X G a__law_mixed l__law_mixed c__law_mixed k__law_mixed fun _ _ _ _ _ _ us hl => match us, hl with | [_, _], _ => rfl
  have D__law_big := Def1.mk' (st := s__law_big) (ps := ["_law_cell", "_law_k"]) X G a__law_big l__law_big c__law_big k__law_big fun _ _ _ _ _ _ us hl => match us, hl with | [_, _], _ => rfl
  have D__law_twice := Def1.mk' (st := s__law_twice) (ps := ["_law_row"]) X G a__law_twice l__law_twice c__law_twice k__law_twice fun _ _ _ _ _ _ us hl => match us, hl with | [_], _ => rfl
  have D__law_doubled := Def1.mk' (st := s__law_doubled) (ps := ["_law_rows_here"]) X G a__law_doubled l__law_doubled c__law_doubled k__law_doubled fun _ _ _ _ _ _ us hl => match us, hl with | [_], _ => rfl
  have D__law_whole := Def1.mk' (st := s__law_whole) (ps := ["_law_found"]) X G a__law_whole l__law_whole c__law_whole k__law_whole fun _ _ _ _ _ _ us hl => match us, hl with | [_], _ => rfl
  have D__law_fine_row := Def1.mk' (st := s__law_fine_row) (ps := ["_law_row", "_law_width_here", "_law_ahead"]) X G a__law_fine_row l__law_fine_row c__law_fine_row k__law_fine_row fun _ _ _ _ _ _ us hl => match us, hl with | [_, _, _], _ => rfl
  have D__law_fine := Def1.mk' (st := s__law_fine) (ps := ["_law_rows_here", "_law_width_here", "_law_most"]) X G a__law_fine l__law_fine c__law_fine k__law_fine fun _ _ _ _ _ _ us hl => match us, hl with | [_, _, _], _ => rfl
  have D__law_idle := Def1.mk' (st := s__law_idle) (ps := ["_law_row", "_law_width_here"]) X G a__law_idle l__law_idle c__law_idle k__law_idle fun _ _ _ _ _ _ us hl => match us, hl with | [_, _], _ => rfl
  have D__law_key := Def1.mk' (st := s__law_key) (ps := ["_law_row"]) X G a__law_key l__law_key c__law_key k__law_key fun _ _ _ _ _ _ us hl => match us, hl with | [_], _ => rfl
  have D__law_own := Def1.mk' (st := s__law_own) (ps := ["_law_row"]) X G a__law_own l__law_own c__law_own k__law_own fun _ _ _ _ _ _ us hl => match us, hl with | [_], _ => rfl
  have D__law_formed := Def1.mk' (st := s__law_formed) (ps := ["_law_rows_here", "_law_width_here"]) X G a__law_formed l__law_formed c__law_formed k__law_formed fun _ _ _ _ _ _ us hl => match us, hl with | [_, _], _ => rfl
  have D_firsts_of := Def1.mk' (st := s_firsts_of) (ps := ["marks"]) X G a_firsts_of l_firsts_of c_firsts_of k_firsts_of fun _ _ _ _ _ _ us hl => match us, hl with | [_], _ => rfl
  have D_mark_of := Def1.mk' (st := s_mark_of) (ps := ["made", "number"]) X G a_mark_of l_mark_of c_mark_of k_mark_of fun _ _ _ _ _ _ us hl => match us, hl with | [_, _], _ => rfl
  have D_made_by := Def1.mk' (st := s_made_by) (ps := ["deed", "made", "every"]) X G a_made_by l_made_by c_made_by k_made_by fun _ _ _ _ _ _ us hl => match us, hl with | [_, _, _], _ => rfl
  have D_values := Def1.mk' (st := s_values) (ps := ["width", "rows", "word"]) X G a_values l_values c_values k_values fun _ _ _ _ _ _ us hl => match us, hl with | [_, _, _], _ => rfl
  have D_marks_of := Def1.mk' (st := s_marks_of) (ps := ["width", "rows"]) X G a_marks_of l_marks_of c_marks_of k_marks_of fun _ _ _ _ _ _ us hl => match us, hl with | [_, _], _ => rfl
  have D_renumbered := Def1.mk' (st := s_renumbered) (ps := ["deed", "goes"]) X G a_renumbered l_renumbered c_renumbered k_renumbered fun _ _ _ _ _ _ us hl => match us, hl with | [_, _], _ => rfl
  have D_used_by := Def1.mk' (st := s_used_by) (ps := ["deed"]) X G a_used_by l_used_by c_used_by k_used_by fun _ _ _ _ _ _ us hl => match us, hl with | [_], _ => rfl
  have D_used_for := Def1.mk' (st := s_used_for) (ps := ["rows", "last"]) X G a_used_for l_used_for c_used_for k_used_for fun _ _ _ _ _ _ us hl => match us, hl with | [_, _], _ => rfl
  have D_only_used := Def1.mk' (st := s_only_used) (ps := ["rows", "last"]) X G a_only_used l_only_used c_only_used k_only_used fun _ _ _ _ _ _ us hl => match us, hl with | [_, _], _ => rfl
  have D_plain_of := Def1.mk' (st := s_plain_of) (ps := ["deed", "mark", "first"]) X G a_plain_of l_plain_of c_plain_of k_plain_of fun _ _ _ _ _ _ us hl => match us, hl with | [_, _, _], _ => rfl
  have D_fewer := Def1.mk' (st := s_fewer) (ps := ["width", "rows"]) X G a_fewer l_fewer c_fewer k_fewer fun _ _ _ _ _ _ us hl => match us, hl with | [_, _], _ => rfl
  have D__law_holds := Def1.mk' (st := s__law_holds) (ps := ["_law_rows_here", "_law_width_here"]) X G a__law_holds l__law_holds c__law_holds k__law_holds fun _ _ _ _ _ _ us hl => match us, hl with | [_, _], _ => rfl
  have D__law_deed := Def1.mk' (st := s__law_deed) (ps := ["_law_number", "_law_width_here", "_law_ahead"]) X G a__law_deed l__law_deed c__law_deed k__law_deed fun _ _ _ _ _ _ us hl => match us, hl with | [_, _, _], _ => rfl
  have D__law_rows := Def1.mk' (st := s__law_rows) (ps := ["_law_width_here", "_law_numbers"]) X G a__law_rows l__law_rows c__law_rows k__law_rows fun _ _ _ _ _ _ us hl => match us, hl with | [_, _], _ => rfl
  have D__law_width := Def1.mk' (st := s__law_width) (ps := ["_law_cell"]) X G a__law_width l__law_width c__law_width k__law_width fun _ _ _ _ _ _ us hl => match us, hl with | [_], _ => rfl
  have D_law := Def1.mk' (st := s_law) (ps := ["_law_script"]) X G a_law l_law c_law k_law fun _ _ _ _ _ _ us hl => match us, hl with | [_], _ => rfl
  exact ⟨_, fun s v => .of_eq rfl, fun base _ _ => ok_all D__law_at D__law_mixed D__law_big D__law_twice D__law_doubled D__law_whole D__law_fine_row D__law_fine D__law_idle D__law_key D__law_own D__law_formed D_firsts_of D_mark_of D_made_by D_values D_marks_of D_renumbered D_used_by D_used_for D_only_used D_plain_of D_fewer D__law_holds D__law_deed D__law_rows D__law_width D_law (PySem.W.mg_none_of X G z_all) (PySem.W.mg_none_of X G z_bool) (PySem.W.mg_none_of X G z_enumerate) (PySem.W.mg_none_of X G z_int) (PySem.W.mg_none_of X G z_isinstance) (PySem.W.mg_none_of X G z_len) (PySem.W.mg_none_of X G z_list) (PySem.W.mg_none_of X G z_max) (PySem.W.mg_none_of X G z_min) (PySem.W.mg_none_of X G z_range) (PySem.W.mg_none_of X G z_reversed) (PySem.W.mg_none_of X G z_str) (PySem.W.mg_none_of X G z_tuple) (PySem.W.mg_none_of X G z_zip)⟩
end LW
set_option Elab.async false
set_option linter.all false
set_option maxRecDepth 100000
set_option maxHeartbeats 8000000
open PySem PySem.W PyProof.Rows
set_option maxRecDepth 100000 in
set_option maxHeartbeats 0 in
theorem PySem.Challenge.cw_bitferry_k61_fewer_are_formed_holds : PySem.Challenge.rw_bitferry_k61_fewer_are_formed.Holds := by
  w_on; o_law; k_head; (case hw => w_witness2)
  k_fill
  refine BFA.walkD (l := PySem.Challenge.rw_bitferry_k61_fewer_are_formed) (FL := LW.F_law) (x := "_law_script") (k := 6) rfl rfl ⟨rfl, by decide, by decide⟩ (fun w h Y => PySem.W.kIn_of Y) ?F LW.law_true
  case F =>
    intro w mg fa h KX G hmg
    refine' LW.all_mk KX G hmg ?a__law_at ?l__law_at ?c__law_at ?k__law_at ?a__law_mixed ?l__law_mixed ?c__law_mixed ?k__law_mixed ?a__law_big ?l__law_big ?c__law_big ?k__law_big ?a__law_twice ?l__law_twice ?c__law_twice ?k__law_twice ?a__law_doubled ?l__law_doubled ?c__law_doubled ?k__law_doubled ?a__law_whole ?l__law_whole ?c__law_whole ?k__law_whole ?a__law_fine_row ?l__law_fine_row ?c__law_fine_row ?k__law_fine_row ?a__law_fine ?l__law_fine ?c__law_fine ?k__law_fine ?a__law_idle ?l__law_idle ?c__law_idle ?k__law_idle ?a__law_key ?l__law_key ?c__law_key ?k__law_key ?a__law_own ?l__law_own ?c__law_own ?k__law_own ?a__law_formed ?l__law_formed ?c__law_formed ?k__law_formed ?a_firsts_of ?l_firsts_of ?c_firsts_of ?k_firsts_of ?a_mark_of ?l_mark_of ?c_mark_of ?k_mark_of ?a_made_by ?l_made_by ?c_made_by ?k_made_by ?a_values ?l_values ?c_values ?k_values ?a_marks_of ?l_marks_of ?c_marks_of ?k_marks_of ?a_renumbered ?l_renumbered ?c_renumbered ?k_renumbered ?a_used_by ?l_used_by ?c_used_by ?k_used_by ?a_used_for ?l_used_for ?c_used_for ?k_used_for ?a_only_used ?l_only_used ?c_only_used ?k_only_used ?a_plain_of ?l_plain_of ?c_plain_of ?k_plain_of ?a_fewer ?l_fewer ?c_fewer ?k_fewer ?a__law_holds ?l__law_holds ?c__law_holds ?k__law_holds ?a__law_deed ?l__law_deed ?c__law_deed ?k__law_deed ?a__law_rows ?l__law_rows ?c__law_rows ?k__law_rows ?a__law_width ?l__law_width ?c__law_width ?k__law_width ?a_law ?l_law ?c_law ?k_law ?z_all ?z_bool ?z_enumerate ?z_int ?z_isinstance ?z_len ?z_list ?z_max ?z_min ?z_range ?z_reversed ?z_str ?z_tuple ?z_zip
    (case a__law_at => k_is)
    (case l__law_at => k_is)
    (case c__law_at => k_is)
    (case k__law_at => k_is)
    (case a__law_mixed => k_is)
    (case l__law_mixed => k_is)
    (case c__law_mixed => k_is)
    (case k__law_mixed => k_is)
    (case a__law_big => k_is)
    (case l__law_big => k_is)
    (case c__law_big => k_is)
    (case k__law_big => k_is)
    (case a__law_twice => k_is)
    (case l__law_twice => k_is)
    (case c__law_twice => k_is)
    (case k__law_twice => k_is)
    (case a__law_doubled => k_is)
    (case l__law_doubled => k_is)
    (case c__law_doubled => k_is)
    (case k__law_doubled => k_is)
    (case a__law_whole => k_is)
    (case l__law_whole => k_is)
    (case c__law_whole => k_is)
    (case k__law_whole => k_is)
    (case a__law_fine_row => k_is)
    (case l__law_fine_row => k_is)
    (case c__law_fine_row => k_is)
    (case k__law_fine_row => k_is)
    (case a__law_fine => k_is)
    (case l__law_fine => k_is)
    (case c__law_fine => k_is)
    (case k__law_fine => k_is)
    (case a__law_idle => k_is)
    (case l__law_idle => k_is)
    (case c__law_idle => k_is)
    (case k__law_idle => k_is)
    (case a__law_key => k_is)
    (case l__law_key => k_is)
    (case c__law_key => k_is)
    (case k__law_key => k_is)
    (case a__law_own => k_is)
    (case l__law_own => k_is)
    (case c__law_own => k_is)
    (case k__law_own => k_is)
    (case a__law_formed => k_is)
    (case l__law_formed => k_is)
    (case c__law_formed => k_is)
    (case k__law_formed => k_is)
    (case a_firsts_of => k_is)
    (case l_firsts_of => k_is)
    (case c_firsts_of => k_is)
    (case k_firsts_of => k_is)
    (case a_mark_of => k_is)
    (case l_mark_of => k_is)
    (case c_mark_of => k_is)
    (case k_mark_of => k_is)
    (case a_made_by => k_is)
    (case l_made_by => k_is)
    (case c_made_by => k_is)
    (case k_made_by => k_is)
    (case a_values => k_is)
    (case l_values => k_is)
    (case c_values => k_is)
    (case k_values => k_is)
    (case a_marks_of => k_is)
    (case l_marks_of => k_is)
    (case c_marks_of => k_is)
    (case k_marks_of => k_is)
    (case a_renumbered => k_is)
    (case l_renumbered => k_is)
    (case c_renumbered => k_is)
    (case k_renumbered => k_is)
    (case a_used_by => k_is)
    (case l_used_by => k_is)
    (case c_used_by => k_is)
    (case k_used_by => k_is)
    (case a_used_for => k_is)
    (case l_used_for => k_is)
    (case c_used_for => k_is)
    (case k_used_for => k_is)
    (case a_only_used => k_is)
    (case l_only_used => k_is)
    (case c_only_used => k_is)
    (case k_only_used => k_is)
    (case a_plain_of => k_is)
    (case l_plain_of => k_is)
    (case c_plain_of => k_is)
    (case k_plain_of => k_is)
    (case a_fewer => k_is)
    (case l_fewer => k_is)
    (case c_fewer => k_is)
    (case k_fewer => k_is)
    (case a__law_holds => k_is)
    (case l__law_holds => k_is)
    (case c__law_holds => k_is)
    (case k__law_holds => k_is)
    (case a__law_deed => k_is)
    (case l__law_deed => k_is)
    (case c__law_deed => k_is)
    (case k__law_deed => k_is)
    (case a__law_rows => k_is)
    (case l__law_rows => k_is)
    (case c__law_rows => k_is)
    (case k__law_rows => k_is)
    (case a__law_width => k_is)
    (case l__law_width => k_is)
    (case c__law_width => k_is)
    (case k__law_width => k_is)
    (case a_law => k_is)
    (case l_law => k_is)
    (case c_law => k_is)
    (case k_law => k_is)
    (case z_all => k_is)
    (case z_bool => k_is)
    (case z_enumerate => k_is)
    (case z_int => k_is)
    (case z_isinstance => k_is)
    (case z_len => k_is)
    (case z_list => k_is)
    (case z_max => k_is)
    (case z_min => k_is)
    (case z_range => k_is)
    (case z_reversed => k_is)
    (case z_str => k_is)
    (case z_tuple => k_is)
    (case z_zip => k_is)
