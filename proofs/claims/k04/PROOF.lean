import PyProof.Rows.All
import Wide.All
import OpenK.AllK
import Wide.FinOn
import Lean
import PyProof.EqAt
import PyProof.EqKinds
import PyProof.TupleCall
import PySem.Challenge.RW_spinsum_k04_whole_how_many_roots
set_option Elab.async false
set_option linter.all false
set_option maxRecDepth 100000
/-! THE HAND LAYER, for ints, bools, texts, own classes, LISTS and tuples (index, slices, in, append, pop ..), calls, loops. Paste it whole ahead of your own text; what your proof does not reach may be deleted. -/
namespace L2
open PySem PySem.Spec PyProof.Rows

/-- a key: an int or a str -/
abbrev Key := Sum Int Str
def keyIs : Key → Value → Bool
  | .inl k, v => Value.isInt k v
  | .inr x, v => Value.isStrOf x v
def keyH (w : World) : Key → Int
  | .inl k => hashInt k
  | .inr x => hashStr w x
theorem keyIs_shape : ∀ {k : Key} {v : Value}, keyIs k v = true → (∃ i t, k = Sum.inl i ∧ v = Value.int i t) ∨ (∃ x t, k = Sum.inr x ∧ v = Value.str x t)
  | .inl i, v, h => by
    obtain ⟨t, e⟩ := Value.isInt_shape (k := i) (v := v) h
    exact .inl ⟨i, t, rfl, e⟩
  | .inr x, v, h => by
    obtain ⟨t, e⟩ := Value.isStrOf_shape (x := x) (v := v) h
    exact .inr ⟨x, t, rfl, e⟩
theorem keyIs_int (i : Int) (t : Tok) : keyIs (.inl i) (.int i t) = true := by simp [keyIs, Value.isInt]
theorem keyIs_str (x : Str) (t : Tok) : keyIs (.inr x) (.str x t) = true := by simp [keyIs, Value.isStrOf]
theorem key_ll (a b : Int) : decide ((Sum.inl a : Key) = Sum.inl b) = (a == b) := by
  by_cases e : a = b
  · subst e; simp
  · have h : ¬ (Sum.inl a : Key) = Sum.inl b := fun q => e (Sum.inl.inj q)
    rw [decide_eq_false h]
    exact (beq_eq_false_iff_ne.mpr e).symm
theorem key_rr (a b : Str) : decide ((Sum.inr a : Key) = Sum.inr b) = decide (a = b) := by
  by_cases e : a = b
  · subst e; simp
  · have h : ¬ (Sum.inr a : Key) = Sum.inr b := fun q => e (Sum.inr.inj q)
    rw [decide_eq_false h, decide_eq_false e]
theorem key_lr (a : Int) (b : Str) : decide ((Sum.inl a : Key) = Sum.inr b) = false := decide_eq_false (fun q => nomatch q)
theorem key_rl (a : Str) (b : Int) : decide ((Sum.inr a : Key) = Sum.inl b) = false := decide_eq_false (fun q => nomatch q)

def mixKind (prog : Program) (w : World) : PySem.KeyKind prog w Key where
  is := keyIs
  hash := keyH w
  inj := fun v a b ha hb => by
    rcases keyIs_shape ha with ⟨i, t, rfl, rfl⟩ | ⟨x, t, rfl, rfl⟩
    · rcases keyIs_shape hb with ⟨j, u, rfl, e⟩ | ⟨y, u, rfl, e⟩
      · injection e with e1 _; rw [e1]
      · exact nomatch e
    · rcases keyIs_shape hb with ⟨j, u, rfl, e⟩ | ⟨y, u, rfl, e⟩
      · exact nomatch e
      · injection e with e1 _; rw [e1]
  byValue := fun k v h => by
    rcases keyIs_shape h with ⟨i, t, rfl, rfl⟩ | ⟨x, t, rfl, rfl⟩ <;> rfl
  pyHash := fun hv h => by
    rcases keyIs_shape hv with ⟨i, t, rfl, rfl⟩ | ⟨x, t, rfl, rfl⟩
    · exact wpAny_pyHash_int h
    · exact wpAny_pyHash_str h
  eqBool := fun hu hv h => by
    rcases keyIs_shape hu with ⟨i, t, rfl, rfl⟩ | ⟨x, t, rfl, rfl⟩
    · rcases keyIs_shape hv with ⟨j, u, rfl, rfl⟩ | ⟨y, u, rfl, rfl⟩
      · rw [key_ll] at h; exact wpAny_eqBool_int h
      · rw [key_lr] at h; exact SeqAt.EqAt.int_str i t y u _ _ _ _ h
    · rcases keyIs_shape hv with ⟨j, u, rfl, rfl⟩ | ⟨y, u, rfl, rfl⟩
      · rw [key_rl] at h; exact SeqAt.EqAt.str_int x t j u _ _ _ _ h
      · rw [key_rr] at h; exact wpAny_eqBool_str h
  «strs» := fun k x t v h => by
    rcases keyIs_shape h with ⟨i, u, rfl, e⟩ | ⟨y, u, rfl, e⟩
    · exact nomatch e
    · injection e with e1 _
      subst e1
      cases v <;> rfl

theorem mixKind_is (prog : Program) (w : World) (k : Key) (v : Value) : (mixKind prog w).is k v = keyIs k v := rfl
theorem mixKind_int (prog : Program) (w : World) (i : Int) (t : Tok) : (mixKind prog w).is (.inl i) (.int i t) = true := keyIs_int i t
theorem mixKind_str (prog : Program) (w : World) (x : Str) (t : Tok) : (mixKind prog w).is (.inr x) (.str x t) = true := keyIs_str x t
end L2

namespace L2
open PySem PySem.Spec PyProof.Rows

/-- a value, without the heap -/
inductive V where
  | non | bl (b : Bool) | int (i : Int) | str (x : Str) | byt (b : Array UInt8) | flt (b : UInt64) | ref (a : Addr) | ty (n : String)
  deriving DecidableEq

def RelV : V → Value → Prop
  | .non, u => u = Value.none
  | .bl b, u => u = Value.bool b
  | .int i, u => ∃ t, u = Value.int i t
  | .str x, u => ∃ t, u = Value.str x t
  | .byt b, u => ∃ t, u = Value.bytes b t
  | .flt b, u => ∃ t, u = Value.float b t
  | .ref a, u => u = Value.ref a
  | .ty n, u => u = Value.type n

abbrev Vals : List V → List Value → Prop := Paired RelV
theorem Vals.length {xs : List V} {us : List Value} (r : Vals xs us) : xs.length = us.length := Paired.length r
theorem Vals.get : ∀ {xs : List V} {us : List Value} {i : Nat} {x : V}, Vals xs us → xs[i]? = some x → ∃ u, us[i]? = some u ∧ RelV x u
  | _, _, _, _, .nil, e => by simp at e
  | _, _, 0, _, .cons r _, e => by simp at e; subst e; exact ⟨_, rfl, r⟩
  | _, _, i + 1, x, .cons _ t, e => by
    obtain ⟨u, h1, h2⟩ := Vals.get (i := i) (x := x) t (by simpa using e)
    exact ⟨u, by simpa using h1, h2⟩
theorem Vals.set {x : V} {u : Value} (r : RelV x u) : ∀ {xs : List V} {us : List Value} (i : Nat), Vals xs us → Vals (xs.set i x) (us.set i u)
  | _, _, _, .nil => .nil
  | _, _, 0, .cons _ t => .cons r t
  | _, _, i + 1, .cons q t => .cons q (Vals.set r i t)
theorem Vals.append : ∀ {xs ys : List V} {us ws : List Value}, Vals xs us → Vals ys ws → Vals (xs ++ ys) (us ++ ws)
  | _, _, _, _, .nil, s => s
  | _, _, _, _, .cons r t, s => .cons r (Vals.append t s)
theorem Vals.take : ∀ {xs : List V} {us : List Value} (n : Nat), Vals xs us → Vals (xs.take n) (us.take n)
  | _, _, 0, _ => .nil
  | _, _, _ + 1, .nil => .nil
  | _, _, n + 1, .cons r t => .cons r (Vals.take n t)
theorem Vals.drop : ∀ {xs : List V} {us : List Value} (n : Nat), Vals xs us → Vals (xs.drop n) (us.drop n)
  | _, _, 0, r => r
  | _, _, _ + 1, .nil => .nil
  | _, _, n + 1, .cons _ t => Vals.drop n t
theorem Vals.none_of : ∀ {xs : List V} {us : List Value} {i : Nat}, Vals xs us → xs[i]? = none → us[i]? = none := fun {xs us i} r e => by
  have h1 := r.length
  have h2 : xs.length ≤ i := List.getElem?_eq_none_iff.mp e
  exact List.getElem?_eq_none_iff.mpr (by omega)

def RelO : Option V → Option Value → Prop
  | some v, some u => RelV v u
  | none, none => True
  | _, _ => False
def KV {κ : Type} : List (κ × V) → List (κ × Value) → Prop := Paired fun (p : κ × V) (q : κ × Value) => p.1 = q.1 ∧ RelV p.2 q.2

/-- a key of a dict (00_mix): an int or a text -/
def kV : Key → V
  | .inl i => .int i
  | .inr x => .str x

/-- what stands at a tracked address -/
inductive HO where
  /-- a list -/
  | lst (xs : List V)
  /-- a tuple (never changes) -/
  | tup (xs : List V)
  /-- a dict whose keys are ints and texts; one whose keys are tuples of ints and texts (the empty one is both) -/
  | dK (kvs : List (Key × V)) | dT (kvs : List (List Key × V))
  /-- a set of ints: its members, its size -/
  | set (S : Int → Bool) (n : Nat)
  /-- an instance of the class at C, its dict at dx, its attributes -/
  | ins (C dx : Addr) (fs : List (Str × V))
  /-- the dict of the instance at x -/
  | own (x : Addr)
  /-- the dict of an exception -/
  | xd (fs : List (Str × V))
  /-- a bound method, f of x -/
  | met (f x : Addr)
  /-- a range object lo, lo + 1, .. below hi -/
  | rng (lo hi : Int)
  /-- a thing that is known to the object (the script; a dict while a loop walks it): read, never written while it is so -/
  | frz (o : Obj) (u : HO)
  /-- a code object's table -/
  | tbl (ps : Array Value)
  /-- any other thing, by what is true of its one object (a def of one's own: SetO a S n := HO.ext fun h => ..) -/
  | ext (φ : Heap → Prop)

abbrev Hp := Addr → Option HO
def upd (H : Hp) (a : Addr) (o : HO) : Hp := fun b => if b = a then some o else H b
theorem upd_same {H : Hp} {a : Addr} {o : HO} : upd H a o a = some o := by unfold upd; rw [if_pos rfl]
theorem upd_ne {H : Hp} {a b : Addr} {o : HO} (h : b ≠ a) : upd H a o b = H b := by unfold upd; rw [if_neg h]
theorem upd_upd {H : Hp} {a : Addr} {o u : HO} : upd (upd H a o) a u = upd H a u := by
  funext b; unfold upd; split <;> rfl
/-- two objects of different content stand apart -/
theorem ne_of {H : Hp} {a b : Addr} {o u : HO} (h : H a = some o) (h' : H b = some u) (d : o ≠ u) : a ≠ b := by
  intro e; subst e; rw [h] at h'; exact d (Option.some.inj h')
theorem ne_of_none {H : Hp} {a b : Addr} {o : HO} (h : H a = some o) (h' : H b = none) : a ≠ b := by
  intro e; subst e; rw [h] at h'; cases h'

section
variable (P : Program) (w : World)
def ObjOk (H : Hp) (h : Heap) (a : Addr) : HO → Prop
  | .lst xs => xs.length ≤ sizeLine ∧ ∃ (its : List Value) (n : Nat), Vals xs its ∧ h.get? a = some { cls := .type "list", data := .seq its.toArray n }
  | .tup xs => xs.length ≤ sizeLine ∧ ∃ its : List Value, Vals xs its ∧ IsTup h a its.toArray
  | .dK kvs => kvs.length ≤ sizeLine ∧ (a == sysModules) = false ∧ ∃ vs, KV kvs vs ∧ h.DictOf (mixKind P w) a vs
  | .dT kvs => kvs.length ≤ sizeLine ∧ (a == sysModules) = false ∧ ∃ xs : List (List Key × Addr × Value),
      Paired (fun (p : List Key × V) (q : List Key × Addr × Value) => p.1 = q.1 ∧ H q.2.1 = some (.tup (p.1.map kV)) ∧ RelV p.2 q.2.2) kvs xs ∧
      ∃ o es ep, h.get? a = some o ∧ o.ExactDict ∧ o.data = .dict es ep ∧ es.toList = xs.map (entryOfKey (tupleKind (mixKind P w))) ∧ (xs.map (·.1)).Nodup
  | .set S n => h.SetOf (intKind P w) a S n
  | .ins C dx fs => H dx = some (.own a) ∧ fs.length ≤ 1000 ∧ dx ≠ a ∧ h.get? a = some (PySem.W.instObj C dx) ∧
      ∃ mA, h.Ns1 dx mA ∧ (∀ f, RelO (fs.lookup f) (mA f)) ∧ PySem.Within mA (fs.map (·.1))
  | .own _ => ∃ o, h.get? a = some o
  | .xd fs => ∃ mA, h.Ns1 a mA ∧ ∀ f, RelO (fs.lookup f) (mA f)
  | .rng lo hi => ∃ t u v, h.get? a = some { cls := .type "range", data := .fields #[.int lo t, .int hi u, .int 1 v] }
  | .frz o u => h.get? a = some o ∧ ObjOk H h a u
  | .tbl ps => h.get? a = some { cls := .none, data := .fields ps }
  | .met f x => h.get? a = some (PySem.W.methodObj (.ref f) (.ref x))
  | .ext φ => φ h ∧ (∃ o, h.get? a = some o) ∧ ∀ h1 h2 : Heap, φ h1 → (∀ o, h1.get? a = some o → h2.get? a = some o) → φ h2
/-- the abstract heap is held -/
def HOk (H : Hp) (h : Heap) : Prop := ∀ a o, H a = some o → ObjOk P w H h a o
end

section
variable {P : Program} {w : World} {H H' : Hp} {h h' : Heap} {a : Addr} {o : HO}
theorem ObjOk.lt (x : ObjOk P w H h a o) : a < h.objs.size := by
  cases o with
  | lst xs => obtain ⟨_, _, _, _, e⟩ := x; exact Heap.lt_size e
  | tup xs => obtain ⟨_, _, _, p⟩ := x; exact p.lt
  | dK kvs => obtain ⟨_, _, _, _, o, _, _, e, _⟩ := x; exact Heap.lt_size e
  | dT kvs => obtain ⟨_, _, _, _, o, _, _, e, _⟩ := x; exact Heap.lt_size e
  | set S n => obtain ⟨o, _, _, _, e, _⟩ := x; exact Heap.lt_size e
  | ins C dx fs => obtain ⟨_, _, _, e, _⟩ := x; exact Heap.lt_size e
  | own y => obtain ⟨_, e⟩ := x; exact Heap.lt_size e
  | xd fs => obtain ⟨_, ⟨_, _, _, e, _⟩, _⟩ := x; exact Heap.lt_size e
  | rng lo hi => obtain ⟨_, _, _, e⟩ := x; exact Heap.lt_size e
  | frz ob u => obtain ⟨e, _⟩ := x; exact Heap.lt_size e
  | tbl ps => exact Heap.lt_size (show h.get? a = some _ from x)
  | met f y => exact Heap.lt_size (show h.get? a = some _ from x)
  | ext φ => obtain ⟨_, ⟨_, e⟩, _⟩ := x; exact Heap.lt_size e
theorem Paired.mapP {α β : Type} {F G : α → β → Prop} : ∀ {l₁ : List α} {l₂ : List β}, Paired F l₁ l₂ → (∀ a b, F a b → G a b) → Paired G l₁ l₂
  | _, _, .nil, _ => .nil
  | _, _, .cons r t, f => .cons (f _ _ r) (Paired.mapP t f)
theorem Paired.imp' {α β : Type} {F G : α → β → Prop} (f : ∀ a b, F a b → G a b) {l₁ : List α} {l₂ : List β} (r : Paired F l₁ l₂) : Paired G l₁ l₂ := Paired.mapP r f
/-- what an object's description leans on: its own object, its own dict, the tuples -/
theorem ObjOk.stay (x : ObjOk P w H h a o) (k : ∀ b u, (b = a ∨ H b = some (.own a)) → h.get? b = some u → h'.get? b = some u)
    (ho : ∀ b, H b = some (.own a) → H' b = some (.own a)) (ht : ∀ b xs, H b = some (.tup xs) → H' b = some (.tup xs)) : ObjOk P w H' h' a o := by
  induction o with
  | lst xs => obtain ⟨z, its, n, r, e⟩ := x; exact ⟨z, its, n, r, k _ _ (.inl rfl) e⟩
  | tup xs => obtain ⟨z, its, r, ob, e, c⟩ := x; exact ⟨z, its, r, ob, k _ _ (.inl rfl) e, c⟩
  | dK kvs => obtain ⟨z, y, vs, r, ob, es, ep, e, c⟩ := x; exact ⟨z, y, vs, r, ob, es, ep, k _ _ (.inl rfl) e, c⟩
  | dT kvs =>
    obtain ⟨z, y, xs, r, ob, es, ep, e, c⟩ := x
    exact ⟨z, y, xs, Paired.mapP r fun p q z => ⟨z.1, ht _ _ z.2.1, z.2.2⟩, ob, es, ep, k _ _ (.inl rfl) e, c⟩
  | set S n => obtain ⟨ob, es, ep, t, e, c⟩ := x; exact ⟨ob, es, ep, t, k _ _ (.inl rfl) e, c⟩
  | ins C dx fs =>
    obtain ⟨d, z, ne, e, mA, ⟨od, es, ep, e2, c⟩, r⟩ := x
    exact ⟨ho _ d, z, ne, k _ _ (.inl rfl) e, mA, ⟨od, es, ep, k _ _ (.inr d) e2, c⟩, r⟩
  | own y => obtain ⟨ob, e⟩ := x; exact ⟨ob, k _ _ (.inl rfl) e⟩
  | xd fs => obtain ⟨mA, ⟨od, es, ep, e, c⟩, r⟩ := x; exact ⟨mA, ⟨od, es, ep, k _ _ (.inl rfl) e, c⟩, r⟩
  | rng lo hi => obtain ⟨t, u, v, e⟩ := x; exact ⟨t, u, v, k _ _ (.inl rfl) e⟩
  | frz ob u ih => obtain ⟨e, q⟩ := x; exact ⟨k _ _ (.inl rfl) e, ih q⟩
  | tbl ps =>
    have e : h.get? a = some { cls := .none, data := .fields ps } := x
    show h'.get? a = some { cls := .none, data := .fields ps }
    exact k a _ (.inl rfl) e
  | met f y =>
    have e : h.get? a = some (PySem.W.methodObj (.ref f) (.ref y)) := x
    show h'.get? a = some (PySem.W.methodObj (.ref f) (.ref y))
    exact k a _ (.inl rfl) e
  | ext φ => obtain ⟨p, ⟨o, e⟩, st⟩ := x; exact ⟨st _ _ p fun o q => k _ _ (.inl rfl) q, ⟨o, k _ _ (.inl rfl) e⟩, st⟩
theorem HOk.lt (x : HOk P w H h) (e : H a = some o) : a < h.objs.size := (x a o e).lt
theorem HOk.fresh (x : HOk P w H h) (e : h.objs.size ≤ a) : H a = none := by
  cases q : H a with
  | none => rfl
  | some u => exact absurd (Nat.lt_of_lt_of_le (x.lt q) e) (Nat.lt_irrefl _)
/-- every object of the heap is kept -/
theorem HOk.kept (x : HOk P w H h) (k : ∀ b u, h.get? b = some u → h'.get? b = some u) : HOk P w H h' := fun a o e =>
  (x a o e).stay (fun b u _ q => k b u q) (fun _ q => q) fun _ _ q => q
/-- a new object is laid and tracked -/
theorem HOk.laid (x : HOk P w H h) (k : ∀ b u, h.get? b = some u → h'.get? b = some u) (hp : h.objs.size ≤ a) (new : ObjOk P w (upd H a o) h' a o) : HOk P w (upd H a o) h' := fun b u e => by
  have hn := x.fresh hp
  by_cases hb : b = a
  · subst hb; rw [upd_same] at e; cases e; exact new
  · rw [upd_ne hb] at e
    exact (x b u e).stay (fun c v _ q => k c v q) (fun c q => by rw [upd_ne (ne_of_none q hn)]; exact q) fun c xs q => by rw [upd_ne (ne_of_none q hn)]; exact q
end

/-- what may be read as u: it is u, or a known u -/
def Rd (H : Hp) (a : Addr) (u : HO) : Prop := H a = some u ∨ ∃ o, H a = some (.frz o u)
theorem Rd.of {H : Hp} {a : Addr} {u : HO} (h : H a = some u) : Rd H a u := .inl h
theorem Rd.ok {P : Program} {w : World} {H : Hp} {h : Heap} {a : Addr} {u : HO} (r : Rd H a u) (x : HOk P w H h) : ObjOk P w H h a u := by
  rcases r with r | ⟨o, r⟩
  · exact x a u r
  · obtain ⟨_, q⟩ := x a _ r
    exact q
/-- what may be written -/
def Mut : Option HO → Prop
  | some (.lst _) => True
  | some (.dK _) => True
  | some (.dT _) => True
  | some (.set _ _) => True
  | some (.ins _ _ _) => True
  | some (.ext _) => True
  | _ => False
section
variable {P : Program} {w : World} {H : Hp} {h h' : Heap} {x e : Addr} {o' : HO}
/-- the object at e is changed: x itself, or the dict of the instance x -/
theorem HOk.write (ok : HOk P w H h) (mu : Mut (H x)) (he : e = x ∨ H e = some (.own x)) (k : ∀ b u, b ≠ e → h.get? b = some u → h'.get? b = some u) (heo : ∃ u, h'.get? e = some u)
    (new : ObjOk P w (upd H x o') h' x o') : HOk P w (upd H x o') h' := fun b u q => by
  have nown : ∀ c y, H c = some (.own y) → c ≠ x := fun c y r z => by subst z; rw [r] at mu; exact mu
  have ntup : ∀ c xs, H c = some (.tup xs) → c ≠ x := fun c xs r z => by subst z; rw [r] at mu; exact mu
  by_cases hb : b = x
  · subst hb; rw [upd_same] at q; cases q; exact new
  · rw [upd_ne hb] at q
    by_cases hbe : b = e
    · have q' : H b = some (.own x) := by
        rcases he with z | z
        · exact absurd (hbe.trans z) hb
        · rw [hbe]; exact z
      rw [q] at q'; cases q'
      obtain ⟨v, hv⟩ := heo
      exact ⟨v, by rw [hbe]; exact hv⟩
    · refine (ok b u q).stay (fun c v hc r => k c v ?_ r) (fun c r => by rw [upd_ne (nown c b r)]; exact r) fun c xs r => by rw [upd_ne (ntup c xs r)]; exact r
      rcases hc with rfl | hc
      · exact hbe
      · rintro rfl
        rcases he with z | z
        · exact nown c b hc z
        · rw [hc] at z; cases z; exact hb rfl
end

/-! ### kept unless tracked; of the frames at fs (the callers') the slots may change (an exception that passes writes there); of the records at ex (iterators) nothing is said -/
structure Un (fs ex : List Addr) (H H' : Hp) (h h' : Heap) : Prop where
  keep : ∀ b o, h.get? b = some o → H b = none → b ∉ fs → b ∉ ex → h'.get? b = some o
  slot : ∀ b o, h.get? b = some o → H b = none → b ∈ fs → b ∉ ex → ∃ sl, h'.get? b = some { o with slots := sl }
  free : ∀ b o, h.get? b = some o → H b = none → b ∉ ex → H' b = none
  there : ∀ b o, h.get? b = some o → b ∉ ex → ∃ o', h'.get? b = some o'
  tups : ∀ b xs, H b = some (.tup xs) → H' b = some (.tup xs)
  frzs : ∀ b o u, H b = some (.frz o u) → H' b = some (.frz o u)
  tbls : ∀ b ps, H b = some (.tbl ps) → ∃ more, H' b = some (.tbl (ps ++ more))
section
variable {fs fs' ex ex' : List Addr} {H H1 H2 : Hp} {h h1 h2 h' : Heap} {a x e : Addr} {o : HO}
theorem Un.any (u : Un fs ex H H1 h h1) {b : Addr} {ob : Obj} (q : h.get? b = some ob) (n : H b = none) (hx : b ∉ ex) : ∃ sl, h1.get? b = some { ob with slots := sl } := by
  by_cases hb : b ∈ fs
  · exact u.slot b ob q n hb hx
  · exact ⟨ob.slots, u.keep b ob q n hb hx⟩
theorem Un.trans (a : Un fs ex H H1 h h1) (b : Un fs ex H1 H2 h1 h2) : Un fs ex H H2 h h2 where
  keep := fun c ob q n hc hx => b.keep c ob (a.keep c ob q n hc hx) (a.free c ob q n hx) hc hx
  slot := fun c ob q n hc hx => by
    obtain ⟨sl, e1⟩ := a.slot c ob q n hc hx
    obtain ⟨sl', e2⟩ := b.slot c _ e1 (a.free c ob q n hx) hc hx
    exact ⟨sl', e2⟩
  free := fun c ob q n hx => by
    obtain ⟨o', e1⟩ := a.there c ob q hx
    exact b.free c o' e1 (a.free c ob q n hx) hx
  there := fun c ob q hx => by
    obtain ⟨o', e1⟩ := a.there c ob q hx
    exact b.there c o' e1 hx
  tups := fun c xs q => b.tups c xs (a.tups c xs q)
  frzs := fun c ob xs q => b.frzs c ob xs (a.frzs c ob xs q)
  tbls := fun c ps q => by
    obtain ⟨m1, e1⟩ := a.tbls c ps q
    obtain ⟨m2, e2⟩ := b.tbls c _ e1
    exact ⟨m1 ++ m2, by rw [e2, Array.append_assoc]⟩
theorem Un.kept (k : ∀ b u, h.get? b = some u → h'.get? b = some u) : Un fs ex H H h h' :=
  ⟨fun b ob q _ _ _ => k b ob q, fun b ob q _ _ _ => ⟨ob.slots, k b ob q⟩, fun _ _ _ n _ => n, fun b ob q _ => ⟨ob, k b ob q⟩, fun _ _ q => q, fun _ _ _ q => q, fun _ ps q => ⟨#[], by rw [q]; simp⟩⟩
theorem Un.refl : Un fs ex H H h h := Un.kept fun _ _ q => q
theorem Un.laid (k : ∀ b u, h.get? b = some u → h'.get? b = some u) (hp : h.objs.size ≤ a) (hn : H a = none) : Un fs ex H (upd H a o) h h' where
  keep := fun b u q _ _ _ => k b u q
  slot := fun b u q _ _ _ => ⟨u.slots, k b u q⟩
  free := fun b u q n _ => by rw [upd_ne (Nat.ne_of_lt (Nat.lt_of_lt_of_le (Heap.lt_size q) hp))]; exact n
  there := fun b u q _ => ⟨u, k b u q⟩
  tups := fun b xs q => by rw [upd_ne (ne_of_none q hn)]; exact q
  frzs := fun b u xs q => by rw [upd_ne (ne_of_none q hn)]; exact q
  tbls := fun b ps q => ⟨#[], by rw [upd_ne (ne_of_none q hn), q]; simp⟩
theorem Un.write (mu : Mut (H x)) (he : e = x ∨ H e = some (.own x)) (k : ∀ b u, b ≠ e → h.get? b = some u → h'.get? b = some u) (heo : ∃ u, h'.get? e = some u) : Un fs ex H (upd H x o) h h' := by
  have hx : ∀ b, H b = none → b ≠ x := fun b n z => by subst z; rw [n] at mu; exact mu
  have hb : ∀ b, H b = none → b ≠ e := fun b n z => by
    subst z
    rcases he with r | r
    · exact hx b n r
    · rw [n] at r; cases r
  have hm : ∀ b u, H b = some u → ¬ Mut (some u) → b ≠ x := fun b u q nm z => by subst z; rw [q] at mu; exact nm mu
  refine ⟨fun b u q n _ _ => k b u (hb b n) q, fun b u q n _ _ => ⟨u.slots, k b u (hb b n) q⟩, fun b u q n _ => by rw [upd_ne (hx b n)]; exact n, fun b u q _ => ?_,
    fun b xs q => by rw [upd_ne (hm b _ q fun z => z)]; exact q, fun b u xs q => by rw [upd_ne (hm b _ q fun z => z)]; exact q, fun b ps q => ⟨#[], by rw [upd_ne (hm b _ q fun z => z), q]; simp⟩⟩
  by_cases hbe : b = e
  · subst hbe; exact heo
  · exact ⟨u, k b u hbe q⟩
theorem Un.mono (u : Un fs ex H H1 h h1) (hs : ∀ b ∈ fs, b ∈ fs') (hx : ∀ b ∈ ex, b ∈ ex') : Un fs' ex' H H1 h h1 :=
  ⟨fun b ob q n hb he => u.keep b ob q n (fun z => hb (hs b z)) fun z => he (hx b z), fun _ _ q n _ he => u.any q n fun z => he (hx _ z), fun b ob q n he => u.free b ob q n fun z => he (hx b z), fun b ob q he => u.there b ob q fun z => he (hx b z), u.tups, u.frzs, u.tbls⟩
end

/-! ### the heap without what is tracked -/
def trk (h : Heap) (H : Hp) : List Addr := (List.range h.objs.size).filter fun a => (H a).isSome
def hidT (h : Heap) (H : Hp) : Heap := PySem.W.hideAll h (trk h H)
theorem hidT_size (h : Heap) (H : Hp) : (hidT h H).objs.size = h.objs.size := PySem.W.hideAll_size _ _
theorem hidT_get {h : Heap} {H : Hp} {b : Addr} {o : Obj} (e : h.get? b = some o) (n : H b = none) : (hidT h H).get? b = some o :=
  PySem.W.hideAll_get _ e fun hm => by
    have q : (H b).isSome = true := (List.mem_filter.mp hm).2
    rw [n] at q; simp at q
theorem of_hidT {h : Heap} {H : Hp} {b : Addr} {o : Obj} (e : (hidT h H).get? b = some o) : h.get? b = some o ∧ H b = none := by
  have e' : h.get? b = some o := PySem.W.of_hideAll (trk h H) e
  refine ⟨e', ?_⟩
  cases q : H b with
  | none => rfl
  | some x =>
    have hm : b ∈ trk h H := List.mem_filter.mpr ⟨List.mem_range.mpr (Heap.lt_size e'), by simp [q]⟩
    have z : (hidT h H).get? b = none := PySem.W.hideAll_none (trk h H) hm
    rw [z] at e; cases e

/-! ### OpenK's ledger, filled with every new object but one -/
def allNews (g h : Heap) (L : Addr) : List (Addr × Obj) := (List.range h.objs.size).filterMap fun a => if a = L ∨ (g.get? a).isSome = true then none else (h.get? a).map fun o => (a, o)
theorem mem_allNews {g h : Heap} {L a : Addr} {o : Obj} (h1 : a ≠ L) (h2 : g.get? a = none) (h3 : h.get? a = some o) : (a, o) ∈ allNews g h L :=
  List.mem_filterMap.mpr ⟨a, List.mem_range.mpr (Heap.lt_size h3), by simp [h1, h2, h3]⟩
theorem of_mem_allNews {g h : Heap} {L : Addr} {p : Addr × Obj} (hp : p ∈ allNews g h L) : p.1 ≠ L ∧ g.get? p.1 = none ∧ h.get? p.1 = some p.2 := by
  obtain ⟨b, _, e⟩ := List.mem_filterMap.mp hp
  split at e
  · cases e
  · rename_i hn
    cases q : h.get? b with
    | none => rw [q] at e; simp at e
    | some u =>
      rw [q] at e
      simp only [Option.map_some, Option.some.injEq] at e
      subst e
      refine ⟨fun z => hn (.inl z), ?_, q⟩
      show g.get? b = none
      cases r : g.get? b with
      | none => rfl
      | some v => exact (hn (.inr (by simp [r]))).elim
def rest (g h : Heap) (L d : Addr) : List (Addr × Obj) := (allNews g h L).filter fun p => decide (p.1 ≠ d)
theorem rest_ne {g h : Heap} {L d : Addr} : ∀ p ∈ rest g h L d, p.1 ≠ d := fun p hp => of_decide_eq_true (List.mem_filter.mp hp).2
theorem mem_rest {g h : Heap} {L d a : Addr} {o : Obj} (h1 : a ≠ L) (h2 : g.get? a = none) (h3 : h.get? a = some o) (h4 : a ≠ d) : (a, o) ∈ rest g h L d :=
  List.mem_filter.mpr ⟨mem_allNews h1 h2 h3, decide_eq_true h4⟩
theorem news_all {g h : Heap} {L : Addr} : News g L h (allNews g h L) := fun p hp => let ⟨a, b, c⟩ := of_mem_allNews hp; ⟨c, a, b⟩
theorem news_at {g h : Heap} {L d : Addr} {o : Obj} (h1 : d ≠ L) (h2 : g.get? d = none) (h3 : h.get? d = some o) : News g L h ((d, o) :: rest g h L d) := fun p hp => by
  rcases List.mem_cons.mp hp with rfl | hp
  · exact ⟨h3, h1, h2⟩
  · exact news_all p (List.mem_filter.mp hp).1
/-- behind a rule that changed d alone: all else but the frame is kept -/
theorem kept_of_news {g h h' : Heap} {L d : Addr} {m : Str → Option Value} (k : ∀ b o, g.get? b = some o → h.get? b = some o) (F : Fr g L h' m) (N : News g L h' (rest g h L d)) :
    ∀ b o, b ≠ L → b ≠ d → h.get? b = some o → h'.get? b = some o := fun b o h1 h2 e => by
  cases q : g.get? b with
  | some u =>
    have := k b u q
    rw [e] at this; cases this
    exact F.keep b _ q
  | none => exact (N (b, o) (mem_rest h1 q e h2)).1
end L2

namespace L2
open PySem PySem.Spec PyProof.Rows

/-- the module's facts, over the base: the heap at the law's entry without what is tracked there -/
structure Mod (K : PySem.W.Frag) (mg : Str → Option Value) (base : Heap) : Prop where
  kin : K.In base
  glob : base.Ns mainGlobals mg
  blt : ∃ mb, base.Ns builtinsNs mb ∧ ∀ x : Str, x ≠ "__name__" → mb x = bootBuiltins x
  nolimit : base.NoLimit

/-- the context: a def's body (or a comprehension's block) running. base: fixed through the whole law; s₀, H₀: the entry; outer: the frames whose slots others may change (a def's callers); stack: all frames that run;
   ex: iterators that were made ahead of the entry and are walked here (a comprehension's); fn: the names whose cells were made at the entry (a def: all; a comprehension's block: its own); calm: not within an except suite; pn: pins that every state bears; xe: what is wanted of an exception that leaves the code -/
structure Cx where
  prog : Program
  w : World
  K : PySem.W.Frag
  mg : Str → Option Value
  base : Heap
  A : Around
  N : List Str
  s₀ : Shared
  H₀ : Hp
  env : Env
  outer : List Env
  stack : List Env
  ex : List Addr
  fn : Str → Bool
  calm : Bool
  pn : List (Addr × Obj)
  xe : Value → Shared → Prop
/-- the callers' frames -/
def frs (l : List Env) : List Addr := l.filterMap (·.frame)
abbrev Cx.fs (X : Cx) : List Addr := frs X.outer

def Vis (sc : Scope) (x : Str) : Prop := sc.names.lookup x = some .local ∨ sc.names.lookup x = some .cell ∨ sc.names.lookup x = some .free
def Loc (sc : Scope) (x : Str) : Prop := sc.names.lookup x = some .local ∨ sc.names.lookup x = some .cell
def Look (env : Env) (h : Heap) (m : Str → Option Value) (x : Str) (u : Value) : Prop :=
  (env.kindOf x = some .local ∧ m x = some u) ∨ ((env.kindOf x = some .cell ∨ env.kindOf x = some .free) ∧ ∃ c, env.cells.lookup x = some c ∧ h.IsCell c (some u))

structure Cx.Ok (X : Cx) : Prop where
  mod : Mod X.K X.mg X.base
  kind : X.env.scope.kind = .function
  glob : X.env.globals = mainGlobals
  blt : X.env.builtins = builtinsNs
  above : X.s₀.heap.objs.size ≤ X.env.locals
  inj : ∀ x y c, X.env.cells.lookup x = some c → X.env.cells.lookup y = some c → x = y
  has : ∀ x, (X.env.kindOf x = some .cell ∨ X.env.kindOf x = some .free) → ∃ c, X.env.cells.lookup x = some c
  cab : ∀ x c, X.fn x = true → X.env.cells.lookup x = some c → X.s₀.heap.objs.size ≤ c
  hd : X.calm = true → X.A.handled = none
  frames : X.A.frames = some X.stack
  stk : X.stack = X.outer ∨ (X.stack = X.env :: X.outer ∧ X.env.frame = some X.env.locals)
  exf : ∀ b ∈ X.ex, b ≠ X.env.locals ∧ ∀ x c, X.env.cells.lookup x = some c → c ≠ b
  bs : ∀ b o, X.base.get? b = some o → X.s₀.heap.get? b = some o ∧ X.H₀ b = none
  bsz : X.base.objs.size ≤ X.s₀.heap.objs.size
  noex : ∀ b o, X.base.get? b = some o → b ∉ X.ex
  exfs : ∀ b ∈ X.ex, b ∉ X.fs
  funs : X.s₀.heap.FunFrames X.base X.outer
  frf : ∀ b ∈ X.fs, X.H₀ b = none

structure Inv (X : Cx) (pins : List (Addr × Obj)) (σ : List (Option V)) (H : Hp) (s : Shared) : Prop where
  ok : X.Ok
  os : s.os = X.s₀.os
  bare : AllBare s.gens
  base : Un X.fs X.ex X.H₀ H X.s₀.heap s.heap
  loc : ∃ m, s.heap.Ns X.env.locals m ∧ ∀ (i : Nat) (x : Str) (v : V), X.N[i]? = some x → σ[i]? = some (some v) → Vis X.env.scope x → ∃ u, RelV v u ∧ Look X.env s.heap m x u
  cell : ∀ x c, X.env.cells.lookup x = some c → ∃ v, s.heap.IsCell c v
  free : H X.env.locals = none
  freeC : ∀ x c, X.env.cells.lookup x = some c → H c = none
  pin : ∀ p ∈ X.pn ++ pins, s.heap.get? p.1 = some p.2 ∧ H p.1 = none ∧ p.1 ≠ X.env.locals ∧ p.1 ∉ X.fs ∧ ∀ v, p.2.data ≠ .cell v
  hok : HOk X.prog X.w H s.heap
  len : σ.length = X.N.length

section
variable {X : Cx} {pins : List (Addr × Obj)} {σ : List (Option V)} {H H' : Hp} {s : Shared} {h' : Heap}

theorem Cx.Ok.nofr (ok : X.Ok) {b : Addr} {o : Obj} (e : X.base.get? b = some o) : b ∉ X.fs := fun hb => by
  have := (ok.funs.mem hb).1
  rw [e] at this; cases this
theorem Inv.bs (I : Inv X pins σ H s) : ∀ b o, X.base.get? b = some o → s.heap.get? b = some o ∧ H b = none := fun b o e =>
  ⟨I.base.keep b o (I.ok.bs b o e).1 (I.ok.bs b o e).2 (I.ok.nofr e) (I.ok.noex b o e), I.base.free b o (I.ok.bs b o e).1 (I.ok.bs b o e).2 (I.ok.noex b o e)⟩
theorem Inv.bk (I : Inv X pins σ H s) : ∀ b o, X.base.get? b = some o → s.heap.get? b = some o := fun b o e => (I.bs b o e).1
theorem Inv.mod (I : Inv X pins σ H s) : Mod X.K X.mg X.base := I.ok.mod
theorem Inv.kIn (I : Inv X pins σ H s) : X.K.In s.heap := I.ok.mod.kin.keeps I.bk
theorem Inv.nolimit (I : Inv X pins σ H s) : s.heap.NoLimit := I.ok.mod.nolimit.keeps I.bk
/-- the frame over the base: for OpenK's rules (K.In X.base is I.mod.kin) -/
theorem Inv.fr (I : Inv X pins σ H s) : ∃ m, Fr X.base X.env.locals s.heap m :=
  let ⟨m, hn, _⟩ := I.loc
  ⟨m, hn, I.bk, Nat.le_trans I.ok.bsz I.ok.above⟩
theorem Inv.lt (I : Inv X pins σ H s) : X.env.locals < s.heap.objs.size := let ⟨_, hn, _⟩ := I.loc; hn.lt
theorem Inv.sz (I : Inv X pins σ H s) : X.s₀.heap.objs.size ≤ s.heap.objs.size := Nat.le_trans I.ok.above (Nat.le_of_lt I.lt)
theorem Inv.nofs (I : Inv X pins σ H s) {a : Addr} (h : s.heap.objs.size ≤ a) : a ∉ X.fs := fun hb => by
  obtain ⟨_, o, ho, _⟩ := I.ok.funs.mem hb
  exact absurd (Nat.lt_of_lt_of_le (Heap.lt_size ho) (Nat.le_trans I.sz h)) (Nat.lt_irrefl _)
theorem Inv.cne (I : Inv X pins σ H s) : ∀ x c, X.env.cells.lookup x = some c → c ≠ X.env.locals := fun x c e z => by
  obtain ⟨v, o, ho, hd⟩ := I.cell x c e
  obtain ⟨m, ⟨o', es, ep, ho', hd', _⟩, _⟩ := I.loc
  rw [z, ho'] at ho; cases ho; rw [hd'] at hd; cases hd
theorem Inv.funs (I : Inv X pins σ H s) : s.heap.FunFrames X.base X.outer := by
  have all : ∀ (l : List Env), (∀ b ∈ frs l, b ∈ X.fs) → X.s₀.heap.FunFrames X.base l → s.heap.FunFrames X.base l := by
    intro l
    induction l with
    | nil => intro _ _; trivial
    | cons env r ih =>
      intro hs hl
      obtain ⟨hk, ⟨L, o, hf, hn, ho, hd⟩, hr⟩ := hl
      have hL : L ∈ X.fs := hs L (by unfold frs; rw [List.filterMap_cons, hf]; exact List.mem_cons_self)
      obtain ⟨sl, e⟩ := I.base.slot L o ho (I.ok.frf L hL) hL fun z => I.ok.exfs L z hL
      exact ⟨hk, ⟨L, _, hf, hn, e, hd⟩, ih (fun b hb => hs b (by unfold frs; rw [List.filterMap_cons, hf]; exact List.mem_cons_of_mem _ hb)) hr⟩
  exact all X.outer (fun _ hb => hb) I.ok.funs

/-- the frames that run, for a call -/
theorem Inv.stack (I : Inv X pins σ H s) : s.heap.FunFrames X.base X.stack := by
  rcases I.ok.stk with e | ⟨e, hf⟩
  · rw [e]; exact I.funs
  · rw [e]
    obtain ⟨m, hn, _⟩ := I.loc
    refine .cons (by rw [I.ok.kind]; decide) hf hn ?_ I.funs
    exact Heap.get?_none_of_le (Nat.le_trans I.ok.bsz I.ok.above)
theorem Inv.stkSub (I : Inv X pins σ H s) : ∀ b ∈ frs X.stack, b ∈ X.env.locals :: X.fs := fun b hb => by
  rcases I.ok.stk with e | ⟨e, hf⟩
  · rw [e] at hb; exact List.mem_cons_of_mem _ hb
  · rw [e] at hb
    unfold frs at hb
    rw [List.filterMap_cons, hf] at hb
    exact hb
theorem Inv.stkFree (I : Inv X pins σ H s) : ∀ b ∈ frs X.stack, H b = none := fun b hb => by
  rcases List.mem_cons.mp (I.stkSub b hb) with e | hb
  · rw [e]; exact I.free
  · obtain ⟨_, o, ho, _⟩ := I.ok.funs.mem hb
    exact I.base.free b o ho (I.ok.frf b hb) fun z => I.ok.exfs b z hb

/-- THE STEP: the untracked objects but the frame and the records at ch are kept (the callers' frames up to slots), the frame's map is kept, the new abstract heap is held -/
theorem Inv.step {g' : Array GenState} {t' : Nat} {d' : Drawn} {ch : List Addr} (I : Inv X pins σ H s)
    (hch : ∀ b ∈ ch, (b ∈ X.ex ∨ X.s₀.heap.objs.size ≤ b) ∧ b ≠ X.env.locals ∧ (∀ x c, X.env.cells.lookup x = some c → c ≠ b) ∧ ∀ p ∈ X.pn ++ pins, p.1 ≠ b)
    (keep : ∀ b o, b ≠ X.env.locals → b ∉ X.fs → b ∉ ch → s.heap.get? b = some o → H b = none → h'.get? b = some o)
    (slot : ∀ b o, b ≠ X.env.locals → b ∈ X.fs → b ∉ ch → s.heap.get? b = some o → H b = none → ∃ sl, h'.get? b = some { o with slots := sl }) (free : ∀ b o, b ∉ ch → s.heap.get? b = some o → H b = none → H' b = none)
    (there : ∀ b o, b ∉ ch → s.heap.get? b = some o → ∃ o', h'.get? b = some o')
    (tups : ∀ b xs, H b = some (.tup xs) → H' b = some (.tup xs)) (frzs : ∀ b o u, H b = some (.frz o u) → H' b = some (.frz o u)) (tbls : ∀ b ps, H b = some (.tbl ps) → ∃ more, H' b = some (.tbl (ps ++ more)))
    (ns : ∀ m, s.heap.Ns X.env.locals m → h'.Ns X.env.locals m) (hok : HOk X.prog X.w H' h') (hg : AllBare g') :
    Inv X pins σ H' { s with heap := h', gens := g', drawn := d', toks := t' } := by
  have neL : ∀ b o, X.s₀.heap.get? b = some o → b ≠ X.env.locals := fun b o e => Nat.ne_of_lt (Nat.lt_of_lt_of_le (Heap.lt_size e) I.ok.above)
  have neC : ∀ b o, X.s₀.heap.get? b = some o → b ∉ X.ex → b ∉ ch := fun b o e hx hb => by
    rcases (hch b hb).1 with z | z
    · exact hx z
    · exact absurd (Nat.lt_of_lt_of_le (Heap.lt_size e) z) (Nat.lt_irrefl _)
  have cellK : ∀ x c, X.env.cells.lookup x = some c → ∀ v, s.heap.IsCell c v → h'.IsCell c v := fun x c e v ⟨o, ho, hd⟩ => by
    have nch : c ∉ ch := fun z => (hch c z).2.2.1 x c e rfl
    by_cases hc : c ∈ X.fs
    · obtain ⟨sl, q⟩ := slot c o (I.cne x c e) hc nch ho (I.freeC x c e)
      exact ⟨_, q, hd⟩
    · exact ⟨o, keep c o (I.cne x c e) hc nch ho (I.freeC x c e), hd⟩
  refine ⟨I.ok, I.os, hg, ⟨fun b o e n hb hx => ?_, fun b o e n hb hx => ?_, fun b o e n hx => ?_, fun b o e hx => ?_, fun b xs e => tups b xs (I.base.tups b xs e), fun b o xs e => frzs b o xs (I.base.frzs b o xs e), fun b ps e => ?_⟩, ?_, fun x c e => ?_, ?_, fun x c e => ?_, fun p hp => ?_, hok, I.len⟩
  · exact keep b o (neL b o e) hb (neC b o e hx) (I.base.keep b o e n hb hx) (I.base.free b o e n hx)
  · obtain ⟨sl, e1⟩ := I.base.slot b o e n hb hx
    obtain ⟨sl', e2⟩ := slot b _ (neL b o e) hb (neC b o e hx) e1 (I.base.free b o e n hx)
    exact ⟨sl', e2⟩
  · obtain ⟨o', e1⟩ := I.base.there b o e hx
    exact free b o' (neC b o e hx) e1 (I.base.free b o e n hx)
  · obtain ⟨o', e1⟩ := I.base.there b o e hx
    exact there b o' (neC b o e hx) e1
  · obtain ⟨m1, e1⟩ := I.base.tbls b ps e
    obtain ⟨m2, e2⟩ := tbls b _ e1
    exact ⟨m1 ++ m2, by rw [e2, Array.append_assoc]⟩
  · obtain ⟨m, hn, hl⟩ := I.loc
    refine ⟨m, ns m hn, fun i x v e1 e2 e3 => ?_⟩
    obtain ⟨u, r, l⟩ := hl i x v e1 e2 e3
    refine ⟨u, r, ?_⟩
    rcases l with l | ⟨k, c, e, z⟩
    · exact .inl l
    · exact .inr ⟨k, c, e, cellK x c e _ z⟩
  · obtain ⟨v, z⟩ := I.cell x c e
    exact ⟨v, cellK x c e v z⟩
  · obtain ⟨m, ⟨o, _, _, ho, _⟩, _⟩ := I.loc
    exact free _ o (fun z => (hch _ z).2.1 rfl) ho I.free
  · obtain ⟨v, o, ho, hd⟩ := I.cell x c e
    exact free c o (fun z => (hch c z).2.2.1 x c e rfl) ho (I.freeC x c e)
  · obtain ⟨e, n, ne, nf, d⟩ := I.pin p hp
    have nch : p.1 ∉ ch := fun z => (hch p.1 z).2.2.2 p hp rfl
    exact ⟨keep p.1 p.2 ne nf nch e n, free p.1 p.2 nch e n, ne, nf, d⟩
/-- .. where the frame's own object is kept too -/
theorem Inv.un {t' : Nat} (I : Inv X pins σ H s) (u : Un X.fs [] H H' s.heap h') (hok : HOk X.prog X.w H' h') : Inv X pins σ H' { s with heap := h', toks := t' } := by
  obtain ⟨m, ⟨o, es, ep, ho, r⟩, _⟩ := id I.loc
  obtain ⟨sl, hL⟩ := u.any ho I.free (by simp)
  exact I.step (g' := s.gens) (d' := s.drawn) (ch := []) (fun _ z => nomatch z) (fun b o _ hb _ e n => u.keep b o e n hb (by simp)) (fun b o _ hb _ e n => u.slot b o e n hb (by simp)) (fun b o _ e n => u.free b o e n (by simp)) (fun b o _ e => u.there b o e (by simp)) u.tups u.frzs u.tbls (fun m' hm => by
    obtain ⟨o', es', ep', ho', r'⟩ := hm
    rw [ho] at ho'; cases ho'
    exact ⟨_, es', ep', hL, r'⟩) hok I.bare
/-- behind a call (or a comprehension's block): the slots of this frame may have changed too, the records at ch may have turned -/
theorem Inv.call {g' : Array GenState} {t' : Nat} {d' : Drawn} {ch : List Addr} (I : Inv X pins σ H s) (u : Un (frs X.stack) ch H H' s.heap h') (hok : HOk X.prog X.w H' h') (hg : AllBare g')
    (hch : ∀ b ∈ ch, (b ∈ X.ex ∨ X.s₀.heap.objs.size ≤ b) ∧ b ≠ X.env.locals ∧ (∀ x c, X.env.cells.lookup x = some c → c ≠ b) ∧ ∀ p ∈ X.pn ++ pins, p.1 ≠ b) :
    Inv X pins σ H' { s with heap := h', gens := g', drawn := d', toks := t' } := by
  obtain ⟨m, ⟨o, es, ep, ho, r⟩, _⟩ := id I.loc
  obtain ⟨sl, hL⟩ := u.any ho I.free fun z => (hch _ z).2.1 rfl
  exact I.step (ch := ch) hch (fun b o hL hb hc e n => u.keep b o e n (fun z => (List.mem_cons.mp (I.stkSub b z)).elim hL hb) hc) (fun b o _ _ hc e n => u.any e n hc) (fun b o hc e n => u.free b o e n hc) (fun b o hc e => u.there b o e hc) u.tups u.frzs u.tbls (fun m' hm => by
    obtain ⟨o', es', ep', ho', r'⟩ := hm
    rw [ho] at ho'; cases ho'
    exact ⟨_, es', ep', hL, r'⟩) hok hg
/-- an untracked record of ours (an iterator) has turned -/
theorem Inv.turned {t' : Nat} {it : Addr} (I : Inv X pins σ H s) (k : ∀ b o, b ≠ it → s.heap.get? b = some o → h'.get? b = some o) (hn : H it = none) (hL : it ≠ X.env.locals)
    (h1 : it ∈ X.ex ∨ X.s₀.heap.objs.size ≤ it) (h2 : ∀ x c, X.env.cells.lookup x = some c → c ≠ it) (h3 : ∀ p ∈ X.pn ++ pins, p.1 ≠ it) : Inv X pins σ H { s with heap := h', toks := t' } := by
  have nit : ∀ b u, H b = some u → b ≠ it := fun b u e z => by rw [z, hn] at e; cases e
  refine I.step (g' := s.gens) (d' := s.drawn) (ch := [it]) (fun b hb => ?_) (fun b o _ _ hc e _ => k b o (fun z => hc (by simp [z])) e) (fun b o _ _ hc e _ => ⟨o.slots, k b o (fun z => hc (by simp [z])) e⟩) (fun _ _ _ _ n => n)
    (fun b o hc e => ⟨o, k b o (fun z => hc (by simp [z])) e⟩) (fun _ _ e => e) (fun _ _ _ e => e) (fun b ps e => ⟨#[], by rw [e]; simp⟩) (fun m hm => ?_) (fun b u e => ?_) I.bare
  · have e : b = it := by simpa using hb
    subst e
    exact ⟨h1, hL, h2, h3⟩
  · obtain ⟨o, es, ep, ho, r⟩ := hm
    exact ⟨o, es, ep, k _ o (Ne.symm hL) ho, r⟩
  · refine (I.hok b u e).stay (fun c v hc q => k c v ?_ q) (fun _ q => q) fun _ _ q => q
    rcases hc with z | z
    · rw [z]; exact nit b u e
    · exact nit c _ z
theorem Inv.tok (I : Inv X pins σ H s) (t : Nat) : Inv X pins σ H { s with toks := t } := I.un (h' := s.heap) (t' := t) Un.refl I.hok
/-- all objects kept -/
theorem Inv.kept {t' : Nat} (I : Inv X pins σ H s) (k : ∀ b u, s.heap.get? b = some u → h'.get? b = some u) : Inv X pins σ H { s with heap := h', toks := t' } := I.un (Un.kept k) (I.hok.kept k)
/-- a new object laid and tracked -/
theorem Inv.laid {a : Addr} {o : HO} {t' : Nat} (I : Inv X pins σ H s) (k : ∀ b u, s.heap.get? b = some u → h'.get? b = some u) (hp : s.heap.objs.size ≤ a) (new : ObjOk X.prog X.w (upd H a o) h' a o) :
    Inv X pins σ (upd H a o) { s with heap := h', toks := t' } := I.un (Un.laid k hp (I.hok.fresh hp)) (I.hok.laid k hp new)
/-- an object written -/
theorem Inv.write {x e : Addr} {o : HO} {t' : Nat} (I : Inv X pins σ H s) (mu : Mut (H x)) (he : e = x ∨ H e = some (.own x)) (k : ∀ b u, b ≠ e → s.heap.get? b = some u → h'.get? b = some u) (heo : ∃ u, h'.get? e = some u)
    (new : ObjOk X.prog X.w (upd H x o) h' x o) : Inv X pins σ (upd H x o) { s with heap := h', toks := t' } := I.un (Un.write mu he k heo) (I.hok.write mu he k heo new)
/-- forgetting slots, pins -/
theorem Inv.weak {σ' : List (Option V)} (I : Inv X pins σ H s) (hl : σ'.length = σ.length) (w : ∀ (i : Nat) v, σ'[i]? = some (some v) → σ[i]? = some (some v)) : Inv X pins σ' H s :=
  ⟨I.ok, I.os, I.bare, I.base, let ⟨m, hn, hl'⟩ := I.loc; ⟨m, hn, fun i x v e1 e2 e3 => hl' i x v e1 (w i v e2) e3⟩, I.cell, I.free, I.freeC, I.pin, I.hok, hl.trans I.len⟩
theorem Inv.pins_of {pins' : List (Addr × Obj)} (I : Inv X pins σ H s) (h : ∀ p ∈ pins', s.heap.get? p.1 = some p.2 ∧ H p.1 = none ∧ p.1 ≠ X.env.locals ∧ p.1 ∉ X.fs ∧ ∀ v, p.2.data ≠ .cell v) : Inv X pins' σ H s :=
  ⟨I.ok, I.os, I.bare, I.base, I.loc, I.cell, I.free, I.freeC, fun p hp => (List.mem_append.mp hp).elim (fun z => I.pin p (List.mem_append_left _ z)) (h p), I.hok, I.len⟩

theorem nodup_ix {N : List Str} (hN : N.Nodup) {i j : Nat} {x : Str} (a : N[i]? = some x) (b : N[j]? = some x) : i = j := by
  obtain ⟨h1, e1⟩ := List.getElem?_eq_some_iff.mp a
  obtain ⟨h2, e2⟩ := List.getElem?_eq_some_iff.mp b
  exact (List.getElem_inj hN).mp (e1.trans e2.symm)

/-- a name is stored; what changed -/
theorem store_ok2 {M : Model} {A : Around} {E : Value → Shared → Prop} {i : Nat} {x : Str} {v : V} {u : Value} {Q : Unit → Shared → Prop} (I : Inv X pins σ H s) (hN : X.N.Nodup) (hi : X.N[i]? = some x) (hx : Loc X.env.scope x) (r : RelV v u)
    (h : ∀ s', Inv X pins (σ.set i (some v)) H s' → (∃ a, Heap.SameBut a s.heap s'.heap ∧ (a = X.env.locals ∨ X.env.cells.lookup x = some a)) → Q () s') (hf : X.fn x = true ∨ X.env.scope.names.lookup x = some .local := by first | exact .inl rfl | exact .inr rfl | assumption) : wpAny M A (storeName X.env x u) Q E s := by
  obtain ⟨m, hn, hl⟩ := id I.loc
  have hcls : (X.env.scope.kind == .class || (X.env.scope.kind == .module && X.env.locals != X.env.globals)) = false := by rw [I.ok.kind]; rfl
  have hiσ : i < σ.length := by rw [I.len]; exact (List.getElem?_eq_some_iff.mp hi).1
  have cne := I.cne
  have tracked : ∀ {a : Addr} {h' : Heap}, (∃ o, s.heap.get? a = some o ∧ H a = none) → Heap.SameBut a s.heap h' → HOk X.prog X.w H h' := fun {a h'} ha hs b ob e => by
    obtain ⟨_, _, hfree⟩ := ha
    refine (I.hok b ob e).stay (fun c w' hc q => (hs.2 c ?_).trans q) (fun _ q => q) fun _ _ q => q
    rintro rfl
    rcases hc with rfl | hc
    · rw [hfree] at e; cases e
    · rw [hfree] at hc; cases hc
  rcases hx with hk | hk
  · refine wpAny_storeName_local hk hn (fun h' hn' hs => ?_) hcls
    obtain ⟨oL, _, _, hoL, _⟩ := id hn
    refine h _ ⟨I.ok, I.os, I.bare, ⟨fun b o e n hb hx => ?_, fun b o e n hb hx => ?_, I.base.free, fun b o e hx => ?_, I.base.tups, I.base.frzs, I.base.tbls⟩, ⟨_, hn', fun j y v' e1 e2 e3 => ?_⟩, fun y c e => ?_, I.free, I.freeC, fun p hp => ?_, tracked ⟨oL, hoL, I.free⟩ hs, by simpa using I.len⟩ ⟨_, hs, .inl rfl⟩
    · exact (hs.2 b (Nat.ne_of_lt (Nat.lt_of_lt_of_le (Heap.lt_size e) I.ok.above))).trans (I.base.keep b o e n hb hx)
    · obtain ⟨sl, e1⟩ := I.base.slot b o e n hb hx
      exact ⟨sl, (hs.2 b (Nat.ne_of_lt (Nat.lt_of_lt_of_le (Heap.lt_size e) I.ok.above))).trans e1⟩
    · obtain ⟨o', e1⟩ := I.base.there b o e hx
      exact ⟨o', (hs.2 b (Nat.ne_of_lt (Nat.lt_of_lt_of_le (Heap.lt_size e) I.ok.above))).trans e1⟩
    · by_cases hj : j = i
      · subst hj
        rw [hi] at e1; cases e1
        rw [List.getElem?_set_self hiσ] at e2
        cases e2
        exact ⟨u, r, .inl ⟨hk, by simp⟩⟩
      · rw [List.getElem?_set_ne (Ne.symm hj)] at e2
        obtain ⟨u', r', q⟩ := hl j y v' e1 e2 e3
        refine ⟨u', r', ?_⟩
        rcases q with ⟨k, e⟩ | ⟨k, c, e, z⟩
        · refine .inl ⟨k, ?_⟩
          have : y ≠ x := fun e => hj (nodup_ix hN e1 (e ▸ hi))
          simp [this, e]
        · exact .inr ⟨k, c, e, z.sameBut hs (cne y c e)⟩
    · obtain ⟨w', z⟩ := I.cell y c e
      exact ⟨w', z.sameBut hs (cne y c e)⟩
    · obtain ⟨e, n, ne, nf, d⟩ := I.pin p hp
      exact ⟨(hs.2 p.1 ne).trans e, n, ne, nf, d⟩
  · have hfn : X.fn x = true := by
      rcases hf with z | z
      · exact z
      · rw [z] at hk; cases hk
    obtain ⟨c, hc⟩ := I.ok.has x (.inl hk)
    obtain ⟨w', z⟩ := I.cell x c hc
    refine wpAny_storeName_cell I.ok.kind hk hc z (fun h' hc' hs => ?_)
    obtain ⟨oc, hoc, hocd⟩ := id z
    refine h { s with heap := h' } ⟨I.ok, I.os, I.bare, ⟨fun b o e n hb hx => ?_, fun b o e n hb hx => ?_, I.base.free, fun b o e hx => ?_, I.base.tups, I.base.frzs, I.base.tbls⟩, ⟨m, hn.sameBut hs (Ne.symm (cne x c hc)), fun j y v' e1 e2 e3 => ?_⟩, fun y c' e => ?_, I.free, I.freeC, fun p hp => ?_, tracked ⟨oc, hoc, I.freeC x c hc⟩ hs, by simpa using I.len⟩ ⟨c, hs, .inr hc⟩
    · exact (hs.2 b (Nat.ne_of_lt (Nat.lt_of_lt_of_le (Heap.lt_size e) (I.ok.cab x c hfn hc)))).trans (I.base.keep b o e n hb hx)
    · obtain ⟨sl, e1⟩ := I.base.slot b o e n hb hx
      exact ⟨sl, (hs.2 b (Nat.ne_of_lt (Nat.lt_of_lt_of_le (Heap.lt_size e) (I.ok.cab x c hfn hc)))).trans e1⟩
    · obtain ⟨o', e1⟩ := I.base.there b o e hx
      exact ⟨o', (hs.2 b (Nat.ne_of_lt (Nat.lt_of_lt_of_le (Heap.lt_size e) (I.ok.cab x c hfn hc)))).trans e1⟩
    · by_cases hj : j = i
      · subst hj
        rw [hi] at e1; cases e1
        rw [List.getElem?_set_self hiσ] at e2
        cases e2
        exact ⟨u, r, .inr ⟨.inl hk, c, hc, hc'⟩⟩
      · rw [List.getElem?_set_ne (Ne.symm hj)] at e2
        obtain ⟨u', r', q⟩ := hl j y v' e1 e2 e3
        refine ⟨u', r', ?_⟩
        rcases q with q | ⟨k, c', e, z'⟩
        · exact .inl q
        · refine .inr ⟨k, c', e, z'.sameBut hs ?_⟩
          rintro rfl
          exact hj (nodup_ix hN e1 (I.ok.inj _ _ _ e hc ▸ hi))
    · by_cases hcc : c' = c
      · subst hcc; exact ⟨_, hc'⟩
      · obtain ⟨w2, z2⟩ := I.cell y c' e
        exact ⟨w2, z2.sameBut hs hcc⟩
    · obtain ⟨e, n, ne, nf, d⟩ := I.pin p hp
      refine ⟨(hs.2 p.1 ?_).trans e, n, ne, nf, d⟩
      intro q
      rw [q, hoc] at e
      have q' : oc = p.2 := Option.some.inj e
      exact d w' (by rw [← q']; exact hocd)
theorem store_ok {M : Model} {A : Around} {E : Value → Shared → Prop} {i : Nat} {x : Str} {v : V} {u : Value} {Q : Unit → Shared → Prop} (I : Inv X pins σ H s) (hN : X.N.Nodup) (hi : X.N[i]? = some x) (hx : Loc X.env.scope x) (r : RelV v u)
    (h : ∀ s', Inv X pins (σ.set i (some v)) H s' → Q () s') (hf : X.fn x = true ∨ X.env.scope.names.lookup x = some .local := by first | exact .inl rfl | exact .inr rfl | assumption) : wpAny M A (storeName X.env x u) Q E s :=
  store_ok2 I hN hi hx r (fun s' I' _ => h s' I') hf
/-- behind a call or a block, the state as it is -/
theorem Inv.call' {s' : Shared} {ch : List Addr} (I : Inv X pins σ H s) (ho : s'.os = s.os) (u : Un (frs X.stack) ch H H' s.heap s'.heap) (hok : HOk X.prog X.w H' s'.heap) (hg : AllBare s'.gens)
    (hch : ∀ b ∈ ch, (b ∈ X.ex ∨ X.s₀.heap.objs.size ≤ b) ∧ b ≠ X.env.locals ∧ (∀ x c, X.env.cells.lookup x = some c → c ≠ b) ∧ ∀ p ∈ X.pn ++ pins, p.1 ≠ b) : Inv X pins σ H' s' := by
  obtain ⟨h', g', d', t', o'⟩ := s'
  have e : o' = s.os := ho
  subst e
  exact I.call (g' := g') (t' := t') (d' := d') u hok hg hch
end

/-! ### the judgements -/
/-- an exception: its class, its own dict's address (where it has one), the abstract heap behind it -/
abbrev XK := Value → Option Addr → Hp → Prop
abbrev St := List (Option V)
abbrev VK := V → Hp → Prop
/-- an expression's reading; a test's; an argument list's -/
abbrev TE := St → Hp → VK → Prop
abbrev TT := St → Hp → (Bool → Hp → Prop) → Prop
abbrev TA := St → Hp → (List V → Hp → Prop) → Prop
/-- what is wanted behind a statement -/
structure Ends where
  nx : St → Hp → Prop
  rt : VK
  bk : St → Hp → Prop := fun _ _ => False
  ct : St → Hp → Prop := fun _ _ => False
abbrev TS := Ends → St → Hp → Prop

def EP (X : Cx) (pins : List (Addr × Obj)) (σ : St) (Q : VK) (u : Value) (s' : Shared) : Prop := ∃ v H', Inv X pins σ H' s' ∧ RelV v u ∧ Q v H'
def TP (X : Cx) (pins : List (Addr × Obj)) (σ : St) (Q : Bool → Hp → Prop) (b : Bool) (s' : Shared) : Prop := ∃ H', Inv X pins σ H' s' ∧ Q b H'
def AP (X : Cx) (pins : List (Addr × Obj)) (σ : St) (Q : List V → Hp → Prop) (us : List Value) (s' : Shared) : Prop := ∃ vs H', Inv X pins σ H' s' ∧ Vals vs us ∧ Q vs H'
def SP (X : Cx) (pins : List (Addr × Obj)) (D : Ends) (f : Flow) (s' : Shared) : Prop :=
  match f with
  | .next => ∃ σ' H', Inv X pins σ' H' s' ∧ D.nx σ' H'
  | .brk => ∃ σ' H', Inv X pins σ' H' s' ∧ D.bk σ' H'
  | .cont => ∃ σ' H', Inv X pins σ' H' s' ∧ D.ct σ' H'
  | .ret u => ∃ v σ' H', Inv X pins σ' H' s' ∧ RelV v u ∧ D.rt v H'

def PE (X : Cx) (e : Expr) (t : TE) : Prop :=
  ∀ (pins : List (Addr × Obj)) (s : Shared) (σ : St) (H : Hp) (Q : VK), Inv X pins σ H s → t σ H Q → wpAny (model X.prog X.w) X.A (eval e X.env) (EP X pins σ Q) X.xe s
def PT (X : Cx) (e : Expr) (t : TT) : Prop :=
  ∀ (pins : List (Addr × Obj)) (s : Shared) (σ : St) (H : Hp) (Q : Bool → Hp → Prop), Inv X pins σ H s → t σ H Q → wpAny (model X.prog X.w) X.A (isTrue e X.env (eval e X.env)) (TP X pins σ Q) X.xe s
/-- a test whatever its 'whole' is (and, or) -/
def PW (X : Cx) (e : Expr) (t : TT) : Prop :=
  ∀ (whole : Sem Value) (pins : List (Addr × Obj)) (s : Shared) (σ : St) (H : Hp) (Q : Bool → Hp → Prop), Inv X pins σ H s → t σ H Q → wpAny (model X.prog X.w) X.A (isTrue e X.env whole) (TP X pins σ Q) X.xe s
theorem PW.pt {X : Cx} {e : Expr} {t : TT} (h : PW X e t) : PT X e t := h _
/-- an argument list (no star), from the left -/
def PA (X : Cx) (es : List Expr) (t : TA) : Prop :=
  ∀ (pos : Pos) (pins : List (Addr × Obj)) (s : Shared) (σ : St) (H : Hp) (Q : List V → Hp → Prop), Inv X pins σ H s → t σ H Q → wpAny (model X.prog X.w) X.A (spliced (backTo pos (starEach es X.env))) (AP X pins σ Q) X.xe s
def PS (X : Cx) (st : Stmt) (t : TS) : Prop :=
  ∀ (pins : List (Addr × Obj)) (s : Shared) (σ : St) (H : Hp) (D : Ends), Inv X pins σ H s → t D σ H → wpAny (model X.prog X.w) X.A (exec st X.env) (SP X pins D) X.xe s
def PSs (X : Cx) (st : List Stmt) (t : TS) : Prop :=
  ∀ (pins : List (Addr × Obj)) (s : Shared) (σ : St) (H : Hp) (D : Ends), Inv X pins σ H s → t D σ H → wpAny (model X.prog X.w) X.A (execs st X.env) (SP X pins D) X.xe s
/-- weaken the end -/
theorem thn {α : Type} {t : Sem α} {Q Q' : α → Shared → Prop} {M : Model} {A : Around} {E : Value → Shared → Prop} {s : Shared} (h : wpAny M A t Q E s) (hQ : ∀ a s, Q a s → Q' a s) : wpAny M A t Q' E s := wpAny_mono h hQ fun _ _ x => x
end L2

namespace L2
open PySem PySem.Spec PyProof.Rows
section
variable {X : Cx}

/-- two expressions in a row -/
theorem bin {a b : Expr} {ta tb : TE} (ha : PE X a ta) (hb : PE X b tb) {pins : List (Addr × Obj)} {s : Shared} {σ : St} {H : Hp} {R : V → V → Hp → Prop} (I : Inv X pins σ H s) (h : ta σ H fun x H1 => tb σ H1 fun y H2 => R x y H2)
    {α : Type} {Q : α → Shared → Prop} {f : Value → Value → Sem α}
    (hf : ∀ v u s2 x y H2, Inv X pins σ H2 s2 → RelV x v → RelV y u → R x y H2 → wpAny (model X.prog X.w) X.A (f v u) Q X.xe s2) :
    wpAny (model X.prog X.w) X.A (eval a X.env) (fun v s₁ => wpAny (model X.prog X.w) X.A (eval b X.env) (fun u s₂ => wpAny (model X.prog X.w) X.A (f v u) Q X.xe s₂) X.xe s₁) X.xe s := by
  refine thn (ha pins s σ H _ I h) fun v s1 ⟨x, H1, I1, r1, q1⟩ => ?_
  refine thn (hb pins s1 σ H1 _ I1 q1) fun u s2 ⟨y, H2, I2, r2, q2⟩ => ?_
  exact hf v u s2 x y H2 I2 r1 r2 q2

/-! ### names and constants -/
def tVar (i : Nat) : TE := fun σ H Q => ∃ v, σ[i]? = some (some v) ∧ Q v H
def tC (v : V) : TE := fun _ H Q => Q v H
theorem pe_var {i : Nat} {x : Str} {pos : Pos} (hN : X.N[i]? = some x) (hv : Vis X.env.scope x) (hd : (x == ("__debug__" : Str)) = false := by decide) (hcd : (x == ("__classdict__" : Str)) = false := by decide) : PE X (.Name x pos) (tVar i) := by
  intro pins s σ H Q I h
  obtain ⟨v, e, h⟩ := h
  obtain ⟨m, hn, hl⟩ := I.loc
  obtain ⟨u, r, l⟩ := hl i x v hN e hv
  have fin : EP X pins σ Q u s := ⟨v, H, I, r, h⟩
  rcases l with ⟨hk, hm⟩ | ⟨hk, c, hc, hcell⟩
  · exact wpAny_Name (wpAny_loadName_local I.ok.kind hk hn hm fin) hd
  · rcases hk with hk | hk
    · exact wpAny_Name (wpAny_loadName_cell I.ok.kind hk hc hcell fin) hd
    · exact wpAny_Name (wpAny_loadName_free I.ok.kind hk hc hcell fin hcd) hd
theorem pe_int {i j pos} : PE X (.Constant (.int i) j pos) (tC (.int i)) := fun _ _ _ H _ I h => wpAny_Constant_int ⟨.int i, H, I.tok _, ⟨_, rfl⟩, h⟩
theorem pe_bl {b j pos} : PE X (.Constant (.bool b) j pos) (tC (.bl b)) := fun _ _ _ H _ I h => Constant_bool ⟨.bl b, H, I, rfl, h⟩
theorem pe_non {j pos} : PE X (.Constant .none j pos) (tC .non) := fun _ _ _ H _ I h => Constant_none ⟨.non, H, I, rfl, h⟩
theorem pe_str {x j pos} : PE X (.Constant (.str x) j pos) (tC (.str x)) := fun _ _ _ H _ I h => Calls.Constant_str ⟨.str x, H, I.tok _, ⟨_, rfl⟩, h⟩

/-- a global name of the def -/
def Gl (X : Cx) (x : Str) : Prop := X.env.kindOf x = some .globalImplicit
theorem ld_glob {E : Value → Shared → Prop} {pins : List (Addr × Obj)} {s : Shared} {σ : St} {H : Hp} {x : Str} {u : Value} {pos : Pos} {Q : Value → Shared → Prop} (I : Inv X pins σ H s) (hg : Gl X x) (hm : X.mg x = some u) (h : Q u s)
    (hd : (x == ("__debug__" : Str)) = false := by decide) : wpAny (model X.prog X.w) X.A (eval (.Name x pos) X.env) Q E s :=
  Calls.Name_function_global I.ok.kind hg (Calls.loadGlobal_global (by rw [I.ok.glob]; exact I.mod.glob.keeps I.bk) hm h) hd
theorem ld_blt {E : Value → Shared → Prop} {pins : List (Addr × Obj)} {s : Shared} {σ : St} {H : Hp} {x : Str} {u : Value} {pos : Pos} {Q : Value → Shared → Prop} (I : Inv X pins σ H s) (hg : Gl X x) (hm : X.mg x = none) (hv : bootBuiltins x = some u) (h : Q u s)
    (hn : x ≠ "__name__" := by decide) (hd : (x == ("__debug__" : Str)) = false := by decide) : wpAny (model X.prog X.w) X.A (eval (.Name x pos) X.env) Q E s := by
  obtain ⟨mb, h1, h2⟩ := I.mod.blt
  exact Calls.Name_function_global I.ok.kind hg (Calls.loadGlobal_builtin (by rw [I.ok.glob]; exact I.mod.glob.keeps I.bk) hm (by rw [I.ok.blt]; exact h1.keeps I.bk) ((h2 x hn).trans hv) h) hd
/-- a module's constant, a class, a function, as a value -/
theorem pe_glob {x : Str} {v : V} {u : Value} {pos : Pos} (hg : Gl X x) (hm : X.mg x = some u) (r : RelV v u) (hd : (x == ("__debug__" : Str)) = false := by decide) : PE X (.Name x pos) (tC v) :=
  fun _ _ _ H _ I h => ld_glob I hg hm ⟨v, H, I, r, h⟩ hd
theorem pe_bltn {x : Str} {v : V} {u : Value} {pos : Pos} (hg : Gl X x) (hm : X.mg x = none) (hv : bootBuiltins x = some u) (r : RelV v u) (hn : x ≠ "__name__" := by decide) (hd : (x == ("__debug__" : Str)) = false := by decide) : PE X (.Name x pos) (tC v) :=
  fun _ _ _ H _ I h => ld_blt I hg hm hv ⟨v, H, I, r, h⟩ hn hd

/-! ### arithmetic -/
/-- two ints -/
def t2I (ta tb : TE) (k : Int → Int → Hp → Prop) : St → Hp → Prop := fun σ H => ta σ H fun x H1 => tb σ H1 fun y H2 => ∃ i j, x = .int i ∧ y = .int j ∧ k i j H2
def tAdd (ta tb : TE) : TE := fun σ H Q => t2I ta tb (fun i j H2 => Q (.int (i + j)) H2) σ H
def tSub (ta tb : TE) : TE := fun σ H Q => t2I ta tb (fun i j H2 => Q (.int (i - j)) H2) σ H
/-- the left factor below 2^64 -/
def tMul (ta tb : TE) : TE := fun σ H Q => t2I ta tb (fun i j H2 => (-(2 ^ 64) < i ∧ i < 2 ^ 64) ∧ Q (.int (i * j)) H2) σ H
variable {a b : Expr} {ta tb : TE} {pos : Pos}
theorem pe_add (ha : PE X a ta) (hb : PE X b tb) : PE X (.BinOp a .Add b pos) (tAdd ta tb) := by
  intro pins s σ H Q I h
  refine wpAny_BinOp (bin ha hb I h fun v u s2 x y H2 I2 rx ry q => ?_)
  obtain ⟨i, j, rfl, rfl, q⟩ := q
  obtain ⟨t, rfl⟩ := rx
  obtain ⟨t', rfl⟩ := ry
  exact add_int ⟨.int _, H2, I2.tok _, ⟨_, rfl⟩, q⟩
theorem pe_sub (ha : PE X a ta) (hb : PE X b tb) : PE X (.BinOp a .Sub b pos) (tSub ta tb) := by
  intro pins s σ H Q I h
  refine wpAny_BinOp (bin ha hb I h fun v u s2 x y H2 I2 rx ry q => ?_)
  obtain ⟨i, j, rfl, rfl, q⟩ := q
  obtain ⟨t, rfl⟩ := rx
  obtain ⟨t', rfl⟩ := ry
  exact sub_int ⟨.int _, H2, I2.tok _, ⟨_, rfl⟩, q⟩
theorem pe_mul (ha : PE X a ta) (hb : PE X b tb) : PE X (.BinOp a .Mult b pos) (tMul ta tb) := by
  intro pins s σ H Q I h
  refine wpAny_BinOp (bin ha hb I h fun v u s2 x y H2 I2 rx ry q => ?_)
  obtain ⟨i, j, rfl, rfl, ⟨q1, q2⟩, q⟩ := q
  obtain ⟨t, rfl⟩ := rx
  obtain ⟨t', rfl⟩ := ry
  exact mul_int ⟨.int _, H2, I2.tok _, ⟨_, rfl⟩, q⟩ (.of_left (intBits_le_64 q1 q2))

/-! ### comparisons -/
def PC (X : Cx) (op : CmpOp) (a b : Expr) (t : TE) : Prop :=
  ∀ (pins : List (Addr × Obj)) (s : Shared) (σ : St) (H : Hp) (Q : VK), Inv X pins σ H s → t σ H Q →
    wpAny (model X.prog X.w) X.A (eval a X.env) (fun v s₁ => wpAny (model X.prog X.w) X.A (eval b X.env) (fun u s₂ => wpAny (model X.prog X.w) X.A (compareOp op v u) (EP X pins σ Q) X.xe s₂) X.xe s₁) X.xe s
theorem nobehind (b : Expr) {op : CmpOp} (h : op ≠ .In) (h2 : op ≠ .NotIn) : behindInMarks op b = false := by
  have e1 : (op == CmpOp.In) = false := by cases op <;> first | rfl | exact absurd rfl h
  have e2 : (op == CmpOp.NotIn) = false := by cases op <;> first | rfl | exact absurd rfl h2
  cases b <;> simp [behindInMarks, e1, e2]
def tCmp (p : Int → Int → Bool) (ta tb : TE) : TE := fun σ H Q => t2I ta tb (fun i j H2 => Q (.bl (p i j)) H2) σ H
abbrev tLt : TE → TE → TE := tCmp fun i j => decide (i < j)
abbrev tLe : TE → TE → TE := tCmp fun i j => decide (i ≤ j)
abbrev tGt : TE → TE → TE := tCmp fun i j => decide (j < i)
abbrev tGe : TE → TE → TE := tCmp fun i j => decide (j ≤ i)
abbrev tEqI : TE → TE → TE := tCmp fun i j => decide (i = j)
abbrev tNeI : TE → TE → TE := tCmp fun i j => !decide (i = j)
/-- a comparison of two ints, by its rule -/
theorem pc_int {op : CmpOp} {p : Int → Int → Bool} (ha : PE X a ta) (hb : PE X b tb)
    (rule : ∀ (i j : Int) (t u : Tok) (Q : Value → Shared → Prop) (s : Shared), Q (.bool (p i j)) s → wpAny (model X.prog X.w) X.A (compareOp op (.int i t) (.int j u)) Q X.xe s) : PC X op a b (tCmp p ta tb) := by
  intro pins s σ H Q I h
  refine bin ha hb I h fun v u s2 x y H2 I2 rx ry q => ?_
  obtain ⟨i, j, rfl, rfl, q⟩ := q
  obtain ⟨t, rfl⟩ := rx
  obtain ⟨t', rfl⟩ := ry
  exact rule i j t t' _ s2 ⟨.bl _, H2, I2, rfl, q⟩
theorem pc_lt (ha : PE X a ta) (hb : PE X b tb) : PC X .Lt a b (tLt ta tb) := pc_int ha hb fun _ _ _ _ _ _ h => lt_int h
theorem pc_le (ha : PE X a ta) (hb : PE X b tb) : PC X .LtE a b (tLe ta tb) := pc_int ha hb fun _ _ _ _ _ _ h => le_int h
theorem pc_gt (ha : PE X a ta) (hb : PE X b tb) : PC X .Gt a b (tGt ta tb) := pc_int ha hb fun _ _ _ _ _ _ h => gt_int h
theorem pc_ge (ha : PE X a ta) (hb : PE X b tb) : PC X .GtE a b (tGe ta tb) := pc_int ha hb fun _ _ _ _ _ _ h => ge_int h
theorem pc_eqI (ha : PE X a ta) (hb : PE X b tb) : PC X .Eq a b (tEqI ta tb) := pc_int ha hb fun _ _ _ _ _ _ h => eq_int (by rw [Bool.beq_eq_decide_eq]; exact h)
theorem pc_neI (ha : PE X a ta) (hb : PE X b tb) : PC X .NotEq a b (tNeI ta tb) := pc_int ha hb fun _ _ _ _ _ _ h => ne_int (by rw [bne, Bool.beq_eq_decide_eq]; exact h)
/-- is None -/
def tIsN (ta : TE) : TE := fun σ H Q => ta σ H fun x H1 => Q (.bl (decide (x = .non))) H1
def tNotN (ta : TE) : TE := fun σ H Q => ta σ H fun x H1 => Q (.bl (!decide (x = .non))) H1
theorem RelV.none_iff {x : V} {v : Value} (r : RelV x v) : (v == Value.none) = decide (x = .non) := by
  cases x with
  | non => cases r; rfl
  | bl _ => cases r; rfl
  | int _ => obtain ⟨t, rfl⟩ := r; rfl
  | str _ => obtain ⟨t, rfl⟩ := r; rfl
  | byt _ => obtain ⟨t, rfl⟩ := r; rfl
  | flt _ => obtain ⟨t, rfl⟩ := r; rfl
  | ref _ => cases r; rfl
  | ty _ => cases r; rfl
theorem pc_isN {j pos'} (ha : PE X a ta) : PC X .Is a (.Constant .none j pos') (tIsN ta) := by
  intro pins s σ H Q I h
  refine thn (ha pins s σ H _ I h) fun v s1 ⟨x, H1, I1, r1, q1⟩ => ?_
  exact Constant_none (is_none_gen ⟨.bl _, H1, I1, by rw [r1.none_iff]; rfl, q1⟩)
theorem pc_notN {j pos'} (ha : PE X a ta) : PC X .IsNot a (.Constant .none j pos') (tNotN ta) := by
  intro pins s σ H Q I h
  refine thn (ha pins s σ H _ I h) fun v s1 ⟨x, H1, I1, r1, q1⟩ => ?_
  exact Constant_none (isnot_none_gen ⟨.bl _, H1, I1, by rw [r1.none_iff]; rfl, q1⟩)
/-- a comparison as a value, as a test -/
def tB (t : TE) : TT := fun σ H Q => t σ H fun x H1 => ∃ c, x = .bl c ∧ Q c H1
theorem pe_cmp {op : CmpOp} {t : TE} (h : PC X op a b t) (h1 : behindInMarks op b = false := by first | exact nobehind _ (by decide) (by decide) | rfl) : PE X (.Compare a [op] [b] pos) t := fun pins s σ H Q I hw => wpAny_Compare1 (h pins s σ H Q I hw) h1
theorem pt_cmp {op : CmpOp} {t : TE} (h : PC X op a b t) (h1 : behindInMarks op b = false := by first | exact nobehind _ (by decide) (by decide) | rfl) : PT X (.Compare a [op] [b] pos) (tB t) := by
  intro pins s σ H Q I hw
  refine wpAny_isTrue_Compare1 (thn (h pins s σ H _ I hw) fun v s1 h1 => thn h1 fun u s2 h2 => thn h2 fun c s3 ⟨x, H1, I1, r1, q1⟩ => ?_) h1
  obtain ⟨d, rfl, q⟩ := q1
  cases r1
  exact wpAny_truthy_bool ⟨H1, I1, q⟩
/-- an expression whose value is a bool, as a test -/
theorem pt_val {e : Expr} {t : TE} (h : PE X e t) (he : ∀ whole, isTrue e X.env whole = (do let v ← whole; standAt e.pos; holding [v] (truthy v)) := by intro _; rfl) : PT X e (tB t) := by
  intro pins s σ H Q I hw
  refine isTrue_plain (thn (h pins s σ H _ I hw) fun v s1 ⟨x, H1, I1, r1, q1⟩ => ?_) (he _)
  obtain ⟨d, rfl, q⟩ := q1
  cases r1
  exact wpAny_truthy_bool ⟨H1, I1, q⟩

/-! ### and, or, not -/
variable {tA tB' : TT} {rest : List Expr}
def tAnd (t u : TT) : TT := fun σ H Q => t σ H fun c H1 => if c = true then u σ H1 Q else Q false H1
def tOr (t u : TT) : TT := fun σ H Q => t σ H fun c H1 => if c = true then Q true H1 else u σ H1 Q
def tNot (t : TT) : TT := fun σ H Q => t σ H fun c H1 => Q (!c) H1
theorem pw_and1 (ha : PT X a tA) : PW X (.BoolOp .And [a] pos) tA := by
  intro wh pins s σ H Q I h
  refine isTrue_and (thn (ha pins s σ H Q I h) fun c s1 e => ?_)
  cases c with
  | true => exact isTrue_and_nil e
  | false => exact e
theorem pw_or1 (ha : PT X a tA) : PW X (.BoolOp .Or [a] pos) tA := by
  intro wh pins s σ H Q I h
  refine isTrue_or (thn (ha pins s σ H Q I h) fun c s1 e => ?_)
  cases c with
  | false => exact isTrue_or_nil e
  | true => exact e
theorem pw_and (ha : PT X a tA) (hb : PW X (.BoolOp .And (b :: rest) pos) tB') : PW X (.BoolOp .And (a :: b :: rest) pos) (tAnd tA tB') := by
  intro wh pins s σ H Q I h
  refine isTrue_and (thn (ha pins s σ H _ I h) fun c s1 ⟨H1, I1, q1⟩ => ?_)
  cases c with
  | true => exact hb wh pins s1 σ H1 Q I1 q1
  | false => exact ⟨H1, I1, q1⟩
theorem pw_or (ha : PT X a tA) (hb : PW X (.BoolOp .Or (b :: rest) pos) tB') : PW X (.BoolOp .Or (a :: b :: rest) pos) (tOr tA tB') := by
  intro wh pins s σ H Q I h
  refine isTrue_or (thn (ha pins s σ H _ I h) fun c s1 ⟨H1, I1, q1⟩ => ?_)
  cases c with
  | true => exact ⟨H1, I1, q1⟩
  | false => exact hb wh pins s1 σ H1 Q I1 q1
theorem pt_not (ha : PT X a tA) : PT X (.UnaryOp .Not a pos) (tNot tA) := by
  intro pins s σ H Q I h
  exact isTrue_not (ha pins s σ H (fun c H1 => Q (!c) H1) I h)
/-- .. as values (bools) -/
def tAndV (ta tb : TE) : TE := fun σ H Q => ta σ H fun x H1 => ∃ c, x = .bl c ∧ if c = true then tb σ H1 Q else Q (.bl false) H1
def tOrV (ta tb : TE) : TE := fun σ H Q => ta σ H fun x H1 => ∃ c, x = .bl c ∧ if c = true then Q (.bl true) H1 else tb σ H1 Q
def tNotV (ta : TE) : TE := fun σ H Q => ta σ H fun x H1 => ∃ c, x = .bl c ∧ Q (.bl (!c)) H1
theorem pe_one {op} {t : TE} (h : PE X a t) : PE X (.BoolOp op [a] pos) t := fun pins s σ H Q I hw => BoolOp_one (h pins s σ H Q I hw)
theorem pe_and (ha : PE X a ta) (hb : PE X (.BoolOp .And (b :: rest) pos) tb) : PE X (.BoolOp .And (a :: b :: rest) pos) (tAndV ta tb) := by
  intro pins s σ H Q I h
  refine BoolOp_and (thn (ha pins s σ H _ I h) fun v s1 ⟨x, H1, I1, r1, q1⟩ => ?_)
  obtain ⟨c, rfl, q1⟩ := q1
  cases r1
  refine wpAny_truthy_bool ?_
  cases c with
  | true => exact hb pins s1 σ H1 Q I1 q1
  | false => exact ⟨.bl false, H1, I1, rfl, q1⟩
theorem pe_or (ha : PE X a ta) (hb : PE X (.BoolOp .Or (b :: rest) pos) tb) : PE X (.BoolOp .Or (a :: b :: rest) pos) (tOrV ta tb) := by
  intro pins s σ H Q I h
  refine BoolOp_or (thn (ha pins s σ H _ I h) fun v s1 ⟨x, H1, I1, r1, q1⟩ => ?_)
  obtain ⟨c, rfl, q1⟩ := q1
  cases r1
  refine wpAny_truthy_bool ?_
  cases c with
  | false => exact hb pins s1 σ H1 Q I1 q1
  | true => exact ⟨.bl true, H1, I1, rfl, q1⟩
theorem pe_not (ha : PE X a ta) : PE X (.UnaryOp .Not a pos) (tNotV ta) := by
  intro pins s σ H Q I h
  refine UnaryOp_ (thn (ha pins s σ H _ I h) fun v s1 ⟨x, H1, I1, r1, q1⟩ => ?_)
  obtain ⟨c, rfl, q1⟩ := q1
  cases r1
  exact not_of (wpAny_truthy_bool ⟨.bl (!c), H1, I1, rfl, q1⟩)
/-- a if t else b -/
def tIf (t : TT) (ta tb : TE) : TE := fun σ H Q => t σ H fun c H1 => if c = true then ta σ H1 Q else tb σ H1 Q
theorem pe_ifExp {c : Expr} (hc : PT X c tA) (ha : PE X a ta) (hb : PE X b tb) : PE X (.IfExp c a b pos) (tIf tA ta tb) := by
  intro pins s σ H Q I h
  refine wpAny_IfExp (thn (hc pins s σ H _ I h) fun d s1 ⟨H1, I1, q1⟩ => ?_)
  cases d with
  | true => exact ha pins s1 σ H1 Q I1 q1
  | false => exact hb pins s1 σ H1 Q I1 q1
end
end L2

namespace L2
open PySem PySem.Spec PyProof.Rows

/-! ### a list, a tuple that is read: tracked, frozen, or an object of the module -/
def SqL (K : PySem.W.Frag) (H : Hp) (a : Addr) (xs : List V) : Prop :=
  Rd H a (.lst xs) ∨
    ∃ (o : Obj) (its : Array Value) (n : Nat), K.lookup a = some o ∧ o.cls = .type "list" ∧ o.dict = none ∧ o.data = .seq its n ∧ its.size ≤ sizeLine ∧ Vals xs its.toList
def SqT (K : PySem.W.Frag) (H : Hp) (a : Addr) (xs : List V) : Prop :=
  Rd H a (.tup xs) ∨
    ∃ (o : Obj) (its : Array Value) (n : Nat), K.lookup a = some o ∧ o.cls = .type "tuple" ∧ o.data = .seq its n ∧ its.size ≤ sizeLine ∧ Vals xs its.toList
def absV : Value → Option V
  | .none => some .non
  | .bool b => some (.bl b)
  | .int i _ => some (.int i)
  | .str x _ => some (.str x)
  | .bytes b _ => some (.byt b)
  | .float b _ => some (.flt b)
  | .ref a => some (.ref a)
  | .type n => some (.ty n)
  | _ => none
theorem RelV.abs {x : V} {u : Value} (r : RelV x u) : absV u = some x := by
  cases x with
  | non => cases r; rfl
  | bl _ => cases r; rfl
  | int _ => obtain ⟨t, rfl⟩ := r; rfl
  | str _ => obtain ⟨t, rfl⟩ := r; rfl
  | byt _ => obtain ⟨t, rfl⟩ := r; rfl
  | flt _ => obtain ⟨t, rfl⟩ := r; rfl
  | ref _ => cases r; rfl
  | ty _ => cases r; rfl
theorem RelV.inj {x y : V} {u : Value} (r : RelV x u) (q : RelV y u) : x = y := Option.some.inj (r.abs.symm.trans q.abs)
theorem Vals.inj : ∀ {xs ys : List V} {us : List Value}, Vals xs us → Vals ys us → xs = ys
  | _, _, _, .nil, .nil => rfl
  | _, _, _, .cons r t, .cons r' t' => by rw [r.inj r', Vals.inj t t']
section
variable {X : Cx} {pins : List (Addr × Obj)} {σ : St} {H : Hp} {s : Shared} {a : Addr} {xs ys : List V}
theorem SqL.of {K : PySem.W.Frag} (h : H a = some (.lst xs)) : SqL K H a xs := .inl (.inl h)
theorem SqT.of {K : PySem.W.Frag} (h : H a = some (.tup xs)) : SqT K H a xs := .inl (.inl h)
theorem Inv.list (I : Inv X pins σ H s) (h : SqL X.K H a xs) : ∃ its : List Value, Vals xs its ∧ PlainL s.heap a its.toArray ∧ xs.length ≤ sizeLine := by
  rcases h with h | ⟨o, its, n, hk, hc, hd, hs, hz, r⟩
  · obtain ⟨z, its, n, r, e⟩ := h.ok I.hok
    exact ⟨its, r, ⟨_, n, e, rfl, rfl, rfl⟩, z⟩
  · refine ⟨its.toList, r, ⟨o, n, I.kIn a o hk, hc, hd, by simpa using hs⟩, ?_⟩
    have e := r.length
    simp only [Array.length_toList] at e
    omega
theorem Inv.tuple (I : Inv X pins σ H s) (h : SqT X.K H a xs) : ∃ its : List Value, Vals xs its ∧ IsTup s.heap a its.toArray ∧ xs.length ≤ sizeLine := by
  rcases h with h | ⟨o, its, n, hk, hc, hs, hz, r⟩
  · obtain ⟨z, its, r, p⟩ := h.ok I.hok
    exact ⟨its, r, p, z⟩
  · refine ⟨its.toList, r, ⟨o, I.kIn a o hk, hc, n, by simpa using hs⟩, ?_⟩
    have e := r.length
    simp only [Array.length_toList] at e
    omega
theorem Inv.list_inj (I : Inv X pins σ H s) (h : SqL X.K H a xs) (h' : SqL X.K H a ys) : xs = ys := by
  obtain ⟨its, r, ⟨o, n, e, _, _, d⟩, _⟩ := I.list h
  obtain ⟨its', r', ⟨o', n', e', _, _, d'⟩, _⟩ := I.list h'
  rw [e] at e'; cases e'
  rw [d] at d'
  injection d' with d1 _
  have : its = its' := by simpa using congrArg Array.toList d1
  subst this
  exact r.inj r'
theorem Inv.tuple_inj (I : Inv X pins σ H s) (h : SqT X.K H a xs) (h' : SqT X.K H a ys) : xs = ys := by
  obtain ⟨its, r, ⟨o, e, _, n, d⟩, _⟩ := I.tuple h
  obtain ⟨its', r', ⟨o', e', _, n', d'⟩, _⟩ := I.tuple h'
  rw [e] at e'; cases e'
  rw [d] at d'
  injection d' with d1 _
  have : its = its' := by simpa using congrArg Array.toList d1
  subst this
  exact r.inj r'
end

/-! ### another wish about exceptions -/
abbrev Cx.wish (X : Cx) (E : Value → Shared → Prop) : Cx := { X with xe := E }
/-- no exception leaves -/
abbrev Cx.nox (X : Cx) : Cx := X.wish fun _ _ => False
theorem Cx.Ok.wish {X : Cx} (ok : X.Ok) (E : Value → Shared → Prop) : (X.wish E).Ok :=
  ⟨ok.mod, ok.kind, ok.glob, ok.blt, ok.above, ok.inj, ok.has, ok.cab, ok.hd, ok.frames, ok.stk, ok.exf, ok.bs, ok.bsz, ok.noex, ok.exfs, ok.funs, ok.frf⟩
theorem Cx.Ok.unwish {X : Cx} {E : Value → Shared → Prop} (ok : (X.wish E).Ok) : X.Ok :=
  ⟨ok.mod, ok.kind, ok.glob, ok.blt, ok.above, ok.inj, ok.has, ok.cab, ok.hd, ok.frames, ok.stk, ok.exf, ok.bs, ok.bsz, ok.noex, ok.exfs, ok.funs, ok.frf⟩
section
variable {X : Cx} {pins : List (Addr × Obj)} {σ : St} {H : Hp} {s : Shared} {E : Value → Shared → Prop}
theorem Inv.wish (I : Inv X pins σ H s) (E : Value → Shared → Prop) : Inv (X.wish E) pins σ H s := ⟨I.ok.wish E, I.os, I.bare, I.base, I.loc, I.cell, I.free, I.freeC, I.pin, I.hok, I.len⟩
theorem Inv.unwish (I : Inv (X.wish E) pins σ H s) : Inv X pins σ H s := ⟨I.ok.unwish, I.os, I.bare, I.base, I.loc, I.cell, I.free, I.freeC, I.pin, I.hok, I.len⟩
theorem SP.unwish {D : Ends} {f : Flow} {s' : Shared} (h : SP (X.wish E) pins D f s') : SP X pins D f s' := by
  cases f with
  | next => obtain ⟨σ', H', I, q⟩ := h; exact ⟨σ', H', I.unwish, q⟩
  | brk => obtain ⟨σ', H', I, q⟩ := h; exact ⟨σ', H', I.unwish, q⟩
  | cont => obtain ⟨σ', H', I, q⟩ := h; exact ⟨σ', H', I.unwish, q⟩
  | ret u => obtain ⟨v, σ', H', I, r, q⟩ := h; exact ⟨v, σ', H', I.unwish, r, q⟩
theorem PE.nox {e : Expr} {t : TE} (h : PE X.nox e t) : PE X e t := fun pins s σ H Q I hw =>
  wpAny_mono (h pins s σ H Q (I.wish _) hw) (fun _ _ ⟨v, H', I', r, q⟩ => ⟨v, H', I'.unwish, r, q⟩) fun _ _ z => False.elim z
theorem PT.nox {e : Expr} {t : TT} (h : PT X.nox e t) : PT X e t := fun pins s σ H Q I hw =>
  wpAny_mono (h pins s σ H Q (I.wish _) hw) (fun _ _ ⟨H', I', q⟩ => ⟨H', I'.unwish, q⟩) fun _ _ z => False.elim z
theorem PSs.nox {st : List Stmt} {t : TS} (h : PSs X.nox st t) : PSs X st t := fun pins s σ H D I hw =>
  wpAny_mono (h pins s σ H D (I.wish _) hw) (fun _ _ q => q.unwish) fun _ _ z => False.elim z
end

/-! ### blocks and small statements -/
section
variable {X : Cx} {st : Stmt} {rest : List Stmt} {t u : TS} {e : Expr} {te : TE} {pos : Pos}
def tNext : TS := fun D σ H => D.nx σ H
def tSeq (t u : TS) : TS := fun D σ H => t { D with nx := u D } σ H
theorem pss_nil : PSs X [] tNext := fun _ _ σ H _ I h => wpAny_execs_nil ⟨σ, H, I, h⟩
theorem pss_cons (h1 : PS X st t) (h2 : PSs X rest u) : PSs X (st :: rest) (tSeq t u) := by
  intro pins s σ H D I h
  refine wpAny_execs_cons (thn (h1 pins s σ H { D with nx := u D } I h) fun f s1 q => ?_)
  cases f with
  | next =>
    obtain ⟨σ', H', I', q⟩ := q
    exact h2 pins s1 σ' H' D I' q
  | ret v => exact q
  | brk => exact q
  | cont => exact q
theorem pss_one (h1 : PS X st t) : PSs X [st] t := by
  intro pins s σ H D I h
  refine wpAny_execs_cons (thn (h1 pins s σ H D I h) fun f s1 q => ?_)
  cases f with
  | next => exact wpAny_execs_nil q
  | ret v => exact q
  | brk => exact q
  | cont => exact q
def tBreak : TS := fun D σ H => D.bk σ H
def tCont : TS := fun D σ H => D.ct σ H
theorem ps_pass : PS X (.Pass pos) tNext := fun _ _ σ H _ I h => wpAny_Pass ⟨σ, H, I, h⟩
theorem ps_break : PS X (.Break pos) tBreak := fun _ _ σ H _ I h => wpAny_Break ⟨σ, H, I, h⟩
theorem ps_continue : PS X (.Continue pos) tCont := fun _ _ σ H _ I h => wpAny_Continue ⟨σ, H, I, h⟩
/-- in a def's body nothing is shown -/
theorem Inv.quiet {pins : List (Addr × Obj)} {σ : St} {H : Hp} {s : Shared} (I : Inv X pins σ H s) : interactive X.env = false := by simp [interactive, I.ok.kind]
/-- a docstring -/
theorem ps_doc {x j pos pos'} : PS X (.Expr (.Constant (.str x) j pos) pos') tNext := fun _ s σ H _ I h => wpAny_Expr (Calls.Constant_str (show SP X _ _ .next { s with toks := s.toks + 1 } from ⟨σ, H, I.tok _, h⟩)) I.quiet
/-- an expression whose value is dropped -/
def tDrop (te : TE) : TS := fun D σ H => te σ H fun _ H1 => D.nx σ H1
theorem ps_expr (he : PE X e te) (hs : swapsWith e none pos.line X.env = pure false := by rfl) : PS X (.Expr e pos) (tDrop te) := by
  intro pins s σ H D I h
  exact wpAny_Expr_any (thn (he pins s σ H _ I h) fun v s1 ⟨x, H1, I1, r1, q1⟩ => ⟨σ, H1, I1, q1⟩) I.quiet hs
def tRet (te : TE) : TS := fun D σ H => te σ H D.rt
theorem ps_ret (he : PE X e te) : PS X (.Return (some e) pos) (tRet te) := by
  intro pins s σ H D I h
  exact wpAny_Return_some (thn (he pins s σ H _ I h) fun v s1 ⟨x, H1, I1, r1, q1⟩ => ⟨x, σ, H1, I1, r1, q1⟩)
def tRetN : TS := fun D _ H => D.rt .non H
theorem ps_retN : PS X (.Return none pos) tRetN := fun _ _ σ H _ I h => wpAny_Return_none ⟨.non, σ, H, I, rfl, h⟩
def tIfS (c : TT) (t u : TS) : TS := fun D σ H => c σ H fun b H1 => if b = true then t D σ H1 else u D σ H1
theorem ps_if {c : Expr} {a b : List Stmt} {tc : TT} (hc : PT X c tc) (ha : PSs X a t) (hb : PSs X b u) : PS X (.If c a b pos) (tIfS tc t u) := by
  intro pins s σ H D I h
  refine wpAny_If (thn (hc pins s σ H _ I h) fun d s1 ⟨H1, I1, q1⟩ => ?_)
  cases d with
  | true => exact ha pins s1 σ H1 D I1 q1
  | false => exact hb pins s1 σ H1 D I1 q1
/-- code that the proof never comes to -/
def tNever : TS := fun _ _ _ => False
theorem ps_never : PS X st tNever := fun _ _ _ _ _ _ h => h.elim
theorem pss_never {sts : List Stmt} : PSs X sts tNever := fun _ _ _ _ _ _ h => h.elim
end

/-! ### targets -/
abbrev TG := V → St → Hp → (St → Hp → Prop) → Prop
abbrev TGs := List V → St → Hp → (St → Hp → Prop) → Prop
def PG (X : Cx) (target : Expr) (t : TG) : Prop :=
  ∀ (pins : List (Addr × Obj)) (s : Shared) (σ : St) (H : Hp) (v : V) (u : Value) (Q : St → Hp → Prop), Inv X pins σ H s → RelV v u → t v σ H Q →
    wpAny (model X.prog X.w) X.A (assign target X.env u) (fun _ s' => ∃ σ' H', Inv X pins σ' H' s' ∧ Q σ' H') X.xe s
/-- several targets, one after another -/
def PGs (X : Cx) (ts : List Expr) (t : TGs) : Prop :=
  ∀ (pins : List (Addr × Obj)) (s : Shared) (σ : St) (H : Hp) (vs : List V) (us : List Value) (Q : St → Hp → Prop), Inv X pins σ H s → Vals vs us → t vs σ H Q →
    wpAny (model X.prog X.w) X.A (assignInOrder ((assignEach ts X.env).map (·.2)) us) (fun _ s' => ∃ σ' H', Inv X pins σ' H' s' ∧ Q σ' H') X.xe s
/-- o[i] = v, by values -/
abbrev TSet := V → V → V → Hp → (Hp → Prop) → Prop
def PSet (X : Cx) (t : TSet) : Prop :=
  ∀ (pins : List (Addr × Obj)) (s : Shared) (σ : St) (H : Hp) (o i v : V) (ov iv u : Value) (Q : Hp → Prop), Inv X pins σ H s → RelV o ov → RelV i iv → RelV v u → t o i v H Q →
    wpAny (model X.prog X.w) X.A (setItem ov iv u) (fun _ s' => ∃ H', Inv X pins σ H' s' ∧ Q H') X.xe s
/-- a op= b, by values -/
abbrev TIp := V → V → Hp → VK → Prop
def PIp (X : Cx) (op : Operator) (t : TIp) : Prop :=
  ∀ (pins : List (Addr × Obj)) (s : Shared) (σ : St) (H : Hp) (x y : V) (v u : Value) (Q : VK), Inv X pins σ H s → RelV x v → RelV y u → t x y H Q →
    wpAny (model X.prog X.w) X.A (inplaceOp op v u) (EP X pins σ Q) X.xe s
section
variable {X : Cx} {pos : Pos}
def gName (i : Nat) : TG := fun v σ H Q => Q (σ.set i (some v)) H
theorem pg_name {i : Nat} {x : Str} (hN : X.N.Nodup) (hi : X.N[i]? = some x) (hx : Loc X.env.scope x) (hf : X.fn x = true ∨ X.env.scope.names.lookup x = some .local := by first | exact .inl rfl | exact .inr rfl | assumption) : PG X (.Name x pos) (gName i) := by
  intro pins s σ H v u Q I r h
  exact wpAny_assign_Name (store_ok I hN hi hx r (fun s' I' => ⟨_, H, I', h⟩) hf)
def gNil : TGs := fun vs σ H Q => vs = [] ∧ Q σ H
def gCons (t : TG) (u : TGs) : TGs := fun vs σ H Q => ∃ v r, vs = v :: r ∧ t v σ H fun σ' H' => u r σ' H' Q
theorem pgs_nil : PGs X [] gNil := by
  intro pins s σ H vs us Q I r h
  obtain ⟨e, h⟩ := h
  subst e
  cases r
  exact assignInOrder_nil ⟨σ, H, I, h⟩
theorem pgs_cons {e : Expr} {es : List Expr} {t : TG} {u : TGs} (h1 : PG X e t) (h2 : PGs X es u)
    (hs : (assignEach (e :: es) X.env).map (·.2) = assign e X.env :: (assignEach es X.env).map (·.2) := by rfl) : PGs X (e :: es) (gCons t u) := by
  intro pins s σ H vs us Q I r h
  obtain ⟨v, vr, e1, h⟩ := h
  subst e1
  cases r with
  | cons r rr =>
    rw [hs]
    refine assignInOrder_cons (thn (h1 pins s σ H _ _ _ I r h) fun _ s1 ⟨σ1, H1, I1, q1⟩ => ?_)
    exact h2 pins s1 σ1 H1 _ _ Q I1 rr q1
/-- (a, b, ..) = a tuple of that length -/
def gTup (K : PySem.W.Frag) (n : Nat) (t : TGs) : TG := fun v σ H Q => ∃ a xs, v = .ref a ∧ SqT K H a xs ∧ xs.length = n ∧ t xs σ H Q
theorem pg_tup {es : List Expr} {k : Nat} {t : TGs} {n : Nat} (hc : X.calm = true) (h : PGs X es t)
    (hn : (assignEach es X.env).length = n := by rfl) (hst : (assignEach es X.env).findIdx? (·.1) = none := by rfl) : PG X (.Tuple es k pos) (gTup X.K n t) := by
  intro pins s σ H v u Q I r hw
  obtain ⟨a, xs, e1, hq, hl, hw⟩ := hw
  subst e1
  cases r
  obtain ⟨its, rv, ht, hz⟩ := I.tuple hq
  refine assign_Tuple_tuple (I.ok.hd hc) ht (by simp [hn, ← hl, rv.length]) hst fun h' hx => ?_
  have I1 : Inv X pins σ H { s with heap := h' } := I.kept (t' := s.toks) fun b o e => hx b o (Nat.ne_of_lt (Heap.lt_size e)) e
  exact h pins _ σ H xs _ Q I1 (by simpa using rv) hw
/-- o[i] = .. -/
def gSub (to ti : TE) (t : TSet) : TG := fun v σ H Q => to σ H fun o H1 => ti σ H1 fun i H2 => t o i v H2 fun H3 => Q σ H3
theorem pg_sub {o i : Expr} {to ti : TE} {t : TSet} (ho : PE X o to) (hi : PE X i ti) (hs : PSet X t)
    (ha : ∀ v, assign (.Subscript o i pos) X.env v = (do
      let ov ← holding [v] (eval o X.env)
      let iv ← holding [v, ov] (eval i X.env)
      standAt pos
      holding [v, ov, iv] (setItem ov iv v)
      release [v, ov, iv] []) := by intro _; rfl) : PG X (.Subscript o i pos) (gSub to ti t) := by
  intro pins s σ H v u Q I r h
  rw [ha]
  refine wpAny_bind (wpAny_holding (thn (ho pins s σ H _ I h) fun ov s1 ⟨x, H1, I1, r1, q1⟩ => ?_))
  refine wpAny_bind (wpAny_holding (thn (hi pins s1 σ H1 _ I1 q1) fun iv s2 ⟨y, H2, I2, r2, q2⟩ => ?_))
  refine wpAny_bind (wpAny_standAt (wpAny_bind (wpAny_holding (thn (hs pins s2 σ H2 x y v ov iv u _ I2 r1 r2 r q2) fun _ s3 ⟨H3, I3, q3⟩ => ?_))))
  exact wpAny_release ⟨σ, H3, I3, q3⟩
/-- target = value -/
def tAsg (te : TE) (g : TG) : TS := fun D σ H => te σ H fun x H1 => g x σ H1 D.nx
theorem ps_asg {tg e : Expr} {te : TE} {g : TG} (he : PE X e te) (hg : PG X tg g) (hs : swapsWithSole [tg] e pos.line X.env = pure false := by rfl) (hw : swappedStores [tg] e X.env = pure none := by rfl)
    (h1 : (assignEach [tg] X.env).map (·.2) = [assign tg X.env] := by rfl) : PS X (.Assign [tg] e pos) (tAsg te g) := by
  intro pins s σ H D I h
  refine wpAny_Assign_stores (thn (he pins s σ H _ I h) fun v s1 ⟨x, H1, I1, r1, q1⟩ => ?_) hs hw
  rw [h1]
  exact thn (hg pins s1 σ H1 x v _ I1 r1 q1) fun _ s2 q => q
/-- name = value -/
theorem ps_set {i : Nat} {x : Str} {e : Expr} {te : TE} {pos' : Pos} (hN : X.N.Nodup) (hi : X.N[i]? = some x) (hx : Loc X.env.scope x) (he : PE X e te) (hs : swapsWith e (some (.Name x pos')) pos.line X.env = pure false := by rfl) (hf : X.fn x = true ∨ X.env.scope.names.lookup x = some .local := by first | exact .inl rfl | exact .inr rfl | assumption) :
    PS X (.Assign [.Name x pos'] e pos) (tAsg te (gName i)) := by
  intro pins s σ H D I h
  refine wpAny_Assign_Name (thn (he pins s σ H _ I h) fun v s1 ⟨y, H1, I1, r1, q1⟩ => ?_) hs
  exact store_ok I1 hN hi hx r1 (fun s2 I2 => ⟨_, H1, I2, q1⟩) hf
/-- a, b = x, y with plain local names: stored from the right; the pair itself is not tracked (the opening rows as in PyProof/Rows/TupAssign.lean:23) -/
def tPar (i j : Nat) (ta : TA) : TS := fun D σ H => ta σ H fun vs H1 => ∃ v w, vs = [v, w] ∧ D.nx ((σ.set i (some v)).set j (some w)) H1
theorem ps_par {i j : Nat} {x y : Str} {a b : Expr} {ta : TA} {px py pt : Pos} {kt k2 pt2} (hc : X.calm = true) (hN : X.N.Nodup) (hi : X.N[i]? = some x) (hj : X.N[j]? = some y) (hij : i ≠ j)
    (hx : X.env.scope.names.lookup x = some .local) (hy : X.env.scope.names.lookup y = some .local) (ha : PA X [a, b] ta)
    (hw : swappedStores [.Tuple [.Name x px, .Name y py] kt pt] (.Tuple [a, b] k2 pt2) X.env = pure (some [x, y]))
    (hs : swapsWithSole [.Tuple [.Name x px, .Name y py] kt pt] (.Tuple [a, b] k2 pt2) pos.line X.env = pure false := by rfl) :
    PS X (.Assign [.Tuple [.Name x px, .Name y py] kt pt] (.Tuple [a, b] k2 pt2) pos) (tPar i j ta) := by
  intro pins s σ H D I h
  rw [exec_Assign_arm]
  refine wpAny_bind (wpAny_standAt ?_)
  rw [hs]
  refine wpAny_bind (wpAny_pure ?_)
  rw [if_neg (by decide)]
  refine wpAny_bind (Tuple_ (thn (ha _ pins s σ H _ I h) fun us s1 ⟨vs, H1, I1, r1, q1⟩ => ?_))
  obtain ⟨v, w, e1, q1⟩ := q1
  subst e1
  obtain ⟨u1, u2, rfl, rv, rw'⟩ : ∃ u1 u2, us = [u1, u2] ∧ RelV v u1 ∧ RelV w u2 := by
    cases r1 with
    | cons p q =>
      cases q with
      | cons p' q' =>
        cases q'
        exact ⟨_, _, rfl, p, p'⟩
  refine wpAny_newObj_type ?_ (by show 2 ≤ sizeLine; decide)
  have I2 : Inv X pins σ H1 { s1 with heap := s1.heap.push { cls := .type "tuple", data := .seq [u1, u2].toArray } } := I1.kept (t' := s1.toks) fun b o e => Heap.get?_push_of_some _ e
  rw [hw]
  refine wpAny_bind (wpAny_pure ?_)
  show wpAny (model X.prog X.w) X.A (do rule "assign.swapped-stores"; let items ← unpackItems (.ref s1.heap.objs.size) 2 none; assignInOrder [fun v => bindName X.env y v, fun v => bindName X.env x v] items.reverse; pure Flow.next) _ _ _
  refine wpAny_bind (wpAny_rule (wpAny_bind (unpackItems_tuple (items := #[u1, u2]) (I.ok.hd hc) (IsTup.new s1.heap _) fun h' hx' => ?_)))
  have I3 := I2.kept (h' := h') (t' := s1.toks) fun b o e => hx' b o (Nat.ne_of_lt (Heap.lt_size e)) e
  show wpAny _ _ (assignInOrder [fun v => bindName X.env y v, fun v => bindName X.env x v] [u2, u1] >>= fun _ => pure Flow.next) _ _ _
  refine wpAny_bind (assignInOrder_cons (wpAny_bindName (store_ok I3 hN hj (.inl hy) rw' (fun s2 I4 => ?_) (.inr hy))))
  refine assignInOrder_cons (wpAny_bindName (store_ok I4 hN hi (.inl hx) rv (fun s3 I5 => assignInOrder_nil (wpAny_pure ?_)) (.inr hx)))
  rw [List.set_comm _ _ (Ne.symm hij)] at I5
  exact ⟨_, H1, I5, q1⟩
/-- name op= e -/
def tAug (i : Nat) (te : TE) (ti : TIp) : TS := fun D σ H => ∃ x, σ[i]? = some (some x) ∧ te σ H fun y H1 => ti x y H1 fun z H2 => D.nx (σ.set i (some z)) H2
theorem ps_aug {i : Nat} {x : Str} {e : Expr} {te : TE} {op : Operator} {ti : TIp} {pos' : Pos} (hN : X.N.Nodup) (hi : X.N[i]? = some x) (hx : Loc X.env.scope x) (he : PE X e te) (ho : PIp X op ti) (hf : X.fn x = true ∨ X.env.scope.names.lookup x = some .local := by first | exact .inl rfl | exact .inr rfl | assumption) :
    PS X (.AugAssign (.Name x pos') op e pos) (tAug i te ti) := by
  intro pins s σ H D I h
  obtain ⟨v, e1, h⟩ := h
  obtain ⟨m, hn, hl⟩ := I.loc
  have vis : Vis X.env.scope x := by rcases hx with k | k; exact .inl k; exact .inr (.inl k)
  obtain ⟨u, r, l⟩ := hl i x v hi e1 vis
  refine wpAny_AugAssign_Name ?_
  have go : wpAny (model X.prog X.w) X.A (eval e X.env) (fun w s₂ => wpAny (model X.prog X.w) X.A (inplaceOp op u w) (fun r s₃ => wpAny (model X.prog X.w) X.A (storeName X.env x r) (fun _ => SP X pins D .next) X.xe s₃) X.xe s₂) X.xe s := by
    refine thn (he pins s σ H _ I h) fun w s1 ⟨y, H1, I1, r1, q1⟩ => ?_
    refine thn (ho pins s1 σ H1 v y u w _ I1 r r1 q1) fun z s2 ⟨zv, H2, I2, r2, q2⟩ => ?_
    exact store_ok I2 hN hi hx r2 (fun s3 I3 => ⟨_, H2, I3, q2⟩) hf
  rcases l with ⟨hk, hm⟩ | ⟨hk, c, hc, hcell⟩
  · exact wpAny_loadName_local I.ok.kind hk hn hm go
  · rcases hk with hk | hk
    · exact wpAny_loadName_cell I.ok.kind hk hc hcell go
    · rcases hx with k | k
      · have : X.env.scope.names.lookup x = some .free := hk
        rw [k] at this; cases this
      · have : X.env.scope.names.lookup x = some .free := hk
        rw [k] at this; cases this
/-- o[i] op= e -/
def tAugS (to ti te : TE) (tget : V → V → Hp → VK → Prop) (tip : TIp) (tset : TSet) : TS := fun D σ H => to σ H fun o H1 => ti σ H1 fun i H2 => tget o i H2 fun x H3 => te σ H3 fun y H4 => tip x y H4 fun z H5 => tset o i z H5 fun H6 => D.nx σ H6
/-- o[i], by values -/
def PGet (X : Cx) (t : V → V → Hp → VK → Prop) : Prop :=
  ∀ (pins : List (Addr × Obj)) (s : Shared) (σ : St) (H : Hp) (o i : V) (ov iv : Value) (Q : VK), Inv X pins σ H s → RelV o ov → RelV i iv → t o i H Q →
    wpAny (model X.prog X.w) X.A (getItem ov iv) (EP X pins σ Q) X.xe s
theorem ps_augS {o i e : Expr} {to ti te : TE} {tget : V → V → Hp → VK → Prop} {tip : TIp} {tset : TSet} {op : Operator} {tpos : Pos} (ho : PE X o to) (hi : PE X i ti) (hg : PGet X tget) (he : PE X e te) (hp : PIp X op tip) (hs : PSet X tset)
    (ha : ∀ ov iv new, augStore i ov iv new = (do holding [new, ov, iv] (setItem ov iv new); release [new, ov, iv] []; pure .next) := by intros; rfl) : PS X (.AugAssign (.Subscript o i tpos) op e pos) (tAugS to ti te tget tip tset) := by
  intro pins s σ H D I h
  refine wpAny_AugAssign_SubscriptAny (thn (ho pins s σ H _ I h) fun ov s1 ⟨x1, H1, I1, r1, q1⟩ => ?_) ha
  refine thn (hi pins s1 σ H1 _ I1 q1) fun iv s2 ⟨x2, H2, I2, r2, q2⟩ => ?_
  refine thn (hg pins s2 σ H2 x1 x2 ov iv _ I2 r1 r2 q2) fun old s3 ⟨x3, H3, I3, r3, q3⟩ => ?_
  refine thn (he pins s3 σ H3 _ I3 q3) fun v s4 ⟨x4, H4, I4, r4, q4⟩ => ?_
  refine thn (hp pins s4 σ H4 x3 x4 old v _ I4 r3 r4 q4) fun new s5 ⟨x5, H5, I5, r5, q5⟩ => ?_
  exact thn (hs pins s5 σ H5 x1 x2 x5 ov iv new _ I5 r1 r2 r5 q5) fun _ s6 ⟨H6, I6, q6⟩ => ⟨σ, H6, I6, q6⟩
/-- ints -/
def ipI (f : Int → Int → Int) : TIp := fun x y H Q => ∃ i j, x = .int i ∧ y = .int j ∧ Q (.int (f i j)) H
theorem ip_add : PIp X .Add (ipI fun i j => i + j) := by
  intro pins s σ H x y v u Q I r1 r2 h
  obtain ⟨i, j, e1, e2, q⟩ := h
  subst e1; subst e2
  obtain ⟨t, rfl⟩ := r1
  obtain ⟨t', rfl⟩ := r2
  exact iadd_int ⟨.int _, H, I.tok _, ⟨_, rfl⟩, q⟩
theorem ip_sub : PIp X .Sub (ipI fun i j => i - j) := by
  intro pins s σ H x y v u Q I r1 r2 h
  obtain ⟨i, j, e1, e2, q⟩ := h
  subst e1; subst e2
  obtain ⟨t, rfl⟩ := r1
  obtain ⟨t', rfl⟩ := r2
  exact isub_int ⟨.int _, H, I.tok _, ⟨_, rfl⟩, q⟩
end

/-! ### while -/
section
variable {X : Cx} {pos : Pos}
/-- the invariant W with its measure -/
def tWhile (c : TT) (tb : TS) : TS := fun D σ H => ∃ W : Nat → St → Hp → Prop, (∃ m, W m σ H) ∧ ∀ m σ H, W m σ H →
  c σ H fun b H1 => if b = true then ∃ N : St → Hp → Prop, (∀ σ' H', N σ' H' → ∃ m', m' < m ∧ W m' σ' H') ∧ tb { D with nx := N, ct := N, bk := D.nx } σ H1 else D.nx σ H1
theorem ps_while {c : Expr} {body : List Stmt} {tc : TT} {tb : TS} (hp : PassesOwn (model X.prog X.w) X.A X.env X.xe) (hc : PT X c tc) (hb : PSs X body tb) : PS X (.While c body [] pos) (tWhile tc tb) := by
  intro pins s σ H D I h
  obtain ⟨W, ⟨m0, w0⟩, turn⟩ := h
  refine wpAny_While (codeAny_whileLoop (fun n s' => ∃ σ' H', Inv X pins σ' H' s' ∧ W n σ' H') ?_ m0 ⟨σ, H, I, w0⟩)
  rintro n s1 ⟨σ1, H1, I1, w1⟩
  refine wpAny_passesOwn hp (thn (hc pins s1 σ1 H1 _ I1 (turn n σ1 H1 w1)) fun b s2 ⟨H2, I2, q2⟩ => ?_)
  cases b with
  | true =>
    obtain ⟨N, hN, q2⟩ := q2
    rw [if_pos rfl]
    refine wpAny_passesOwn hp (thn (hb pins s2 σ1 H2 _ I2 q2) fun f s3 q3 => ?_)
    cases f with
    | next =>
      obtain ⟨σ3, H3, I3, n3⟩ := q3
      obtain ⟨m', hm, w3⟩ := hN σ3 H3 n3
      exact ⟨m', hm, σ3, H3, I3, w3⟩
    | cont =>
      obtain ⟨σ3, H3, I3, n3⟩ := q3
      obtain ⟨m', hm, w3⟩ := hN σ3 H3 n3
      exact ⟨m', hm, σ3, H3, I3, w3⟩
    | brk => exact q3
    | ret v => exact q3
  | false =>
    rw [if_neg Bool.false_ne_true]
    exact wpAny_execs_nil ⟨σ1, H2, I2, q2⟩
end

/-! ### what a loop or a comprehension walks -/
/-- at turn i: it yields x (the heap may grow), or it stops -/
structure It where
  go : Nat → Hp → Prop
  yld : Nat → Hp → V → Hp → Prop
  stop : Nat → Hp → Prop
/-- the iterator's own objects may turn: they are not the frame's, not pinned, younger than the entry (or a comprehension's own) -/
def FpOk (X : Cx) (pins : List (Addr × Obj)) (H : Hp) (b : Addr) : Prop :=
  H b = none ∧ b ≠ X.env.locals ∧ b ∉ X.fs ∧ (b ∈ X.ex ∨ X.s₀.heap.objs.size ≤ b) ∧ (∀ x c, X.env.cells.lookup x = some c → c ≠ b) ∧ ∀ p ∈ X.pn ++ pins, p.1 ≠ b
theorem Inv.fpOk {X : Cx} {pins : List (Addr × Obj)} {σ : St} {H H' : Hp} {s : Shared} {b : Addr} (I : Inv X pins σ H s) (hb : s.heap.objs.size ≤ b) (hn : H' b = none) : FpOk X pins H' b := by
  refine ⟨hn, Nat.ne_of_gt (Nat.lt_of_lt_of_le I.lt hb), I.nofs hb, .inr (Nat.le_trans I.sz hb), fun x c e z => ?_, fun p hp z => ?_⟩
  · obtain ⟨v, q⟩ := I.cell x c e
    exact absurd (Nat.lt_of_lt_of_le q.lt (by rw [z]; exact hb)) (Nat.lt_irrefl _)
  · exact absurd (Nat.lt_of_lt_of_le (Heap.lt_size (I.pin p hp).1) (by rw [z]; exact hb)) (Nat.lt_irrefl _)
structure Turn (P : Program) (w : World) (K : PySem.W.Frag) (tg : Expr) (J : It) (fp : List Addr) (it : Addr) (tn : Nat → Heap → Prop) : Prop where
  mem : it ∈ fp
  obj : ∀ i h, tn i h → ∀ b ∈ fp, ∃ o, h.get? b = some o ∧ ∀ v, o.data ≠ .cell v
  keep : ∀ i h h', tn i h → (∀ b ∈ fp, ∀ o, h.get? b = some o → h'.get? b = some o) → tn i h'
  item : ∀ (X : Cx), X.prog = P → X.w = w → X.K = K → X.calm = true → ∀ (i : Nat) (pins : List (Addr × Obj)) (s : Shared) (σ : St) (H : Hp) (E : Value → Shared → Prop), Inv X pins σ H s → (∀ b ∈ fp, FpOk X pins H b) → tn i s.heap → J.go i H →
    wpAny (model P w) X.A (pyNext (.ref it)) (fun r s1 => ∃ u, r = some u ∧
      wpAny (model P w) X.A (letOwnedTupleGo tg (.ref it) u) (fun _ s2 => ∃ x H', Inv X pins σ H' s2 ∧ RelV x u ∧ J.yld i H x H' ∧ tn (i + 1) s2.heap ∧ ∀ b ∈ fp, H' b = none) E s1) E s
  done : ∀ (X : Cx), X.prog = P → X.w = w → X.K = K → X.calm = true → ∀ (i : Nat) (pins : List (Addr × Obj)) (s : Shared) (σ : St) (H : Hp) (E : Value → Shared → Prop), Inv X pins σ H s → (∀ b ∈ fp, FpOk X pins H b) → tn i s.heap → J.stop i H →
    wpAny (model P w) X.A (pyNext (.ref it)) (fun r s1 => r = none ∧ Inv X pins σ H s1) E s
  self : ∀ (A : Around) (i : Nat) (s : Shared) (Q : Value → Shared → Prop) (E : Value → Shared → Prop), tn i s.heap → Q (.ref it) s → wpAny (model P w) A (pyIter (.ref it)) Q E s
abbrev TI := St → Hp → (It → Hp → Prop) → Prop
/-- an iterator has come -/
def PIE (X : Cx) (pins : List (Addr × Obj)) (σ : St) (tg : Expr) (R : It → Hp → Prop) (itv : Value) (s2 : Shared) : Prop :=
  ∃ (it : Addr) (fp : List Addr) (tn : Nat → Heap → Prop) (J : It) (H' : Hp), itv = .ref it ∧ Inv X pins σ H' s2 ∧ Turn X.prog X.w X.K tg J fp it tn ∧ tn 0 s2.heap ∧ (∀ b ∈ fp, FpOk X pins H' b) ∧ R J H'
def PI (X : Cx) (tg iter : Expr) (wi : TI) : Prop :=
  ∀ (pins : List (Addr × Obj)) (s : Shared) (σ : St) (H : Hp) (R : It → Hp → Prop), Inv X pins σ H s → wi σ H R →
    wpAny (model X.prog X.w) X.A (eval iter X.env) (fun v s1 => wpAny (model X.prog X.w) X.A (pyIter v) (PIE X pins σ tg R) X.xe s1) X.xe s

/-- the step ahead of the store is nothing for an iterator that keeps no tuple -/
theorem go_of {M : Model} {A : Around} {E : Value → Shared → Prop} {s : Shared} {tg : Expr} {it : Addr} {u : Value} {o : Obj} {n : String} {vs : Array Value} {Q : Unit → Shared → Prop} (ho : s.heap.get? it = some o) (hc : o.cls = .type n) (hd : o.data = .fields vs)
    (hn : ["enumerate", "zip", "dict_itemiterator", "dict_reverseitemiterator", "odict_iterator", "itertools.zip_longest", "itertools.pairwise"].contains n = false) (hQ : Q () s) : wpAny M A (letOwnedTupleGo tg (.ref it) u) Q E s := by
  unfold letOwnedTupleGo
  cases tg <;> first
    | exact wpAny_pure hQ
    | (cases u <;> first
        | exact wpAny_pure hQ
        | (refine wpAny_bind (wpAny_load ho ?_)
           rw [hc, hd]
           show wpAny M A (if (["enumerate", "zip", "dict_itemiterator", "dict_reverseitemiterator", "odict_iterator", "itertools.zip_longest", "itertools.pairwise"].contains n && vs[0]? == some (rawInt _)) = true then _ else _) Q E s
           rw [if_neg (by intro h; rw [hn, Bool.false_and] at h; cases h)]
           exact wpAny_pure hQ))

/-- the list at a, as it stands at each turn (a loop may append to it) -/
def Itl (K : PySem.W.Frag) (a : Addr) : It :=
  ⟨fun i H => ∃ xs x, SqL K H a xs ∧ xs[i]? = some x, fun i H x H' => H' = H ∧ ∀ xs, SqL K H a xs → xs[i]? = some x, fun i H => ∃ xs, SqL K H a xs ∧ xs.length ≤ i⟩
def Itt (K : PySem.W.Frag) (a : Addr) : It :=
  ⟨fun i H => ∃ xs x, SqT K H a xs ∧ xs[i]? = some x, fun i H x H' => H' = H ∧ ∀ xs, SqT K H a xs → xs[i]? = some x, fun i H => ∃ xs, SqT K H a xs ∧ xs.length ≤ i⟩
/-- lo, lo + 1, .. (n of them) -/
def Itr (lo : Int) (n : Nat) : It := ⟨fun i _ => i < n, fun i H x H' => H' = H ∧ x = .int (lo + i), fun i _ => n ≤ i⟩
theorem turn_list {P : Program} {w : World} {K : PySem.W.Frag} {tg : Expr} (a it : Addr) : Turn P w K tg (Itl K a) [it] it (fun i h => h.IsListIter it a i) where
  mem := by simp
  obj := fun i h st b hb => by
    have e : b = it := by simpa using hb
    subst e
    obtain ⟨o, e, c, d⟩ := st
    exact ⟨o, e, fun v z => by rw [d] at z; cases z⟩
  keep := fun i h h' st k => st.at fun o e => k it (by simp) o e
  item := by
    intro X hP hw hK hc i pins s σ H E I hf st hg
    subst hP hw hK
    obtain ⟨xs, x, hq, hx⟩ := hg
    obtain ⟨its, rv, p, hz⟩ := I.list hq
    obtain ⟨u, hu, ru⟩ := rv.get hx
    obtain ⟨f0, f1, f2, f3, f4, f5⟩ := hf it (by simp)
    refine wpAny_pyNext_list_item st p.isList (x := u) (by simpa using hu) fun h' st' sb => ?_
    have I1 : Inv X pins σ H { s with heap := h' } := I.turned (t' := s.toks) (fun b o hb e => (sb.2 b hb).trans e) f0 f1 f3 f4 f5
    obtain ⟨o, e, c, d⟩ := id st'
    exact ⟨u, rfl, go_of (s := { s with heap := h' }) e c d (by decide) ⟨x, H, I1, ru, ⟨rfl, fun ys hy => by rw [I.list_inj hy hq]; exact hx⟩, st', fun b hb => (hf b hb).1⟩⟩
  done := by
    intro X hP hw hK hc i pins s σ H E I hf st hg
    subst hP hw hK
    obtain ⟨xs, hq, hx⟩ := hg
    obtain ⟨its, rv, p, hz⟩ := I.list hq
    obtain ⟨f0, f1, f2, f3, f4, f5⟩ := hf it (by simp)
    have hl := rv.length
    exact wpAny_pyNext_list_end (I.ok.hd hc) st p.isList (by simp; omega) fun h' eb => ⟨rfl, I.turned (t' := s.toks) (fun b o hb e => eb b o hb e) f0 f1 f3 f4 f5⟩
  self := fun _ _ _ _ _ st h => wpAny_pyIter_listiter st h
theorem turn_tuple {P : Program} {w : World} {K : PySem.W.Frag} {tg : Expr} (a it : Addr) : Turn P w K tg (Itt K a) [it] it (fun i h => h.IsTupleIter it a i) where
  mem := by simp
  obj := fun i h st b hb => by
    have e : b = it := by simpa using hb
    subst e
    obtain ⟨o, e, c, d⟩ := st
    exact ⟨o, e, fun v z => by rw [d] at z; cases z⟩
  keep := fun i h h' st k => st.at fun o e => k it (by simp) o e
  item := by
    intro X hP hw hK hc i pins s σ H E I hf st hg
    subst hP hw hK
    obtain ⟨xs, x, hq, hx⟩ := hg
    obtain ⟨its, rv, p, hz⟩ := I.tuple hq
    obtain ⟨u, hu, ru⟩ := rv.get hx
    obtain ⟨f0, f1, f2, f3, f4, f5⟩ := hf it (by simp)
    refine wpAny_pyNext_tuple_item st (show s.heap.IsTuple a its.toArray from p) (x := u) (by simpa using hu) fun h' st' sb => ?_
    have I1 : Inv X pins σ H { s with heap := h' } := I.turned (t' := s.toks) (fun b o hb e => (sb.2 b hb).trans e) f0 f1 f3 f4 f5
    obtain ⟨o, e, c, d⟩ := id st'
    exact ⟨u, rfl, go_of (s := { s with heap := h' }) e c d (by decide) ⟨x, H, I1, ru, ⟨rfl, fun ys hy => by rw [I.tuple_inj hy hq]; exact hx⟩, st', fun b hb => (hf b hb).1⟩⟩
  done := by
    intro X hP hw hK hc i pins s σ H E I hf st hg
    subst hP hw hK
    obtain ⟨xs, hq, hx⟩ := hg
    obtain ⟨its, rv, p, hz⟩ := I.tuple hq
    obtain ⟨f0, f1, f2, f3, f4, f5⟩ := hf it (by simp)
    have hl := rv.length
    exact wpAny_pyNext_tuple_end (I.ok.hd hc) st (show s.heap.IsTuple a its.toArray from p) (by simp; omega) fun h' eb => ⟨rfl, I.turned (t' := s.toks) (fun b o hb e => eb b o hb e) f0 f1 f3 f4 f5⟩
  self := fun _ _ _ _ _ st h => wpAny_pyIter_tupleiter st h
theorem turn_range {P : Program} {w : World} {K : PySem.W.Frag} {tg : Expr} (it : Addr) (lo : Int) (n : Nat) : Turn P w K tg (Itr lo n) [it] it (fun i h => IsRangeIter h it (lo + (i : Nat) * 1) ((n : Int) - (i : Nat)) 1) where
  mem := by simp
  obj := fun i h st b hb => by
    have e : b = it := by simpa using hb
    subst e
    exact ⟨_, st, fun v z => by
      have z' : Data.fields _ = Data.cell v := z
      cases z'⟩
  keep := fun i h h' st k => k it (by simp) _ st
  item := by
    intro X hP hw hK hc i pins s σ H E I hf st hg
    subst hP hw hK
    obtain ⟨f0, f1, f2, f3, f4, f5⟩ := hf it (by simp)
    have W := Walks.range (prog := X.prog) (w := X.w) (I.ok.hd hc) it lo 1 n
    refine W.item i s _ _ hg st fun v h' tk hv st' kk => ?_
    obtain ⟨t, rfl⟩ := hv
    have I1 : Inv X pins σ H { s with heap := h', toks := tk } := I.turned (fun b o hb e => kk b o (by simpa using hb) e) f0 f1 f3 f4 f5
    refine ⟨_, rfl, go_of (s := { s with heap := h', toks := tk }) (n := "range_iterator") st' rfl rfl (by decide) ⟨.int (lo + i), H, I1, ⟨t, ?_⟩, ⟨rfl, rfl⟩, st', fun b hb => (hf b hb).1⟩⟩
    rw [Int.mul_one]
  done := by
    intro X hP hw hK hc i pins s σ H E I hf st hg
    subst hP hw hK
    obtain ⟨f0, f1, f2, f3, f4, f5⟩ := hf it (by simp)
    exact wpAny_pyNext_range_end (I.ok.hd hc) st (by have : n ≤ i := hg; omega) fun h' eb => ⟨rfl, I.turned (t' := s.toks) (fun b o hb e => eb b o hb e) f0 f1 f3 f4 f5⟩
  self := fun _ _ _ _ _ st h => wpAny_pyIter_rangeiter st h
end L2

namespace L2
open PySem PySem.Spec PyProof.Rows
section
variable {X : Cx} {tg : Expr}
def iList (K : PySem.W.Frag) (tl : TE) : TI := fun σ H R => tl σ H fun x H1 => ∃ a, x = .ref a ∧ (∃ xs, SqL K H1 a xs) ∧ R (Itl K a) H1
def iTup (K : PySem.W.Frag) (tl : TE) : TI := fun σ H R => tl σ H fun x H1 => ∃ a, x = .ref a ∧ (∃ xs, SqT K H1 a xs) ∧ R (Itt K a) H1
theorem pi_list {l : Expr} {tl : TE} (hl : PE X l tl) : PI X tg l (iList X.K tl) := by
  intro pins s σ H R I h
  refine thn (hl pins s σ H _ I h) fun v s1 ⟨x, H1, I1, r1, q1⟩ => ?_
  obtain ⟨a, e, ⟨xs, hq⟩, q⟩ := q1
  subst e
  cases r1
  obtain ⟨its, rv, p, hz⟩ := I1.list hq
  refine wpAny_pyIter_list p.isList ?_
  refine ⟨s1.heap.objs.size, [s1.heap.objs.size], _, _, H1, rfl, I1.kept (t' := s1.toks) fun b o e => Heap.get?_push_of_some _ e, turn_list a _, ⟨_, Heap.get?_push_size _ rfl, rfl, rfl⟩, fun b hb => ?_, q⟩
  have e : b = s1.heap.objs.size := by simpa using hb
  subst e
  exact I1.fpOk (Nat.le_refl _) (I1.hok.fresh (Nat.le_refl _))
theorem pi_tup {l : Expr} {tl : TE} (hl : PE X l tl) : PI X tg l (iTup X.K tl) := by
  intro pins s σ H R I h
  refine thn (hl pins s σ H _ I h) fun v s1 ⟨x, H1, I1, r1, q1⟩ => ?_
  obtain ⟨a, e, ⟨xs, hq⟩, q⟩ := q1
  subst e
  cases r1
  obtain ⟨its, rv, p, hz⟩ := I1.tuple hq
  refine wpAny_pyIter_tuple (show s1.heap.IsTuple a its.toArray from p) ?_
  refine ⟨s1.heap.objs.size, [s1.heap.objs.size], _, _, H1, rfl, I1.kept (t' := s1.toks) fun b o e => Heap.get?_push_of_some _ e, turn_tuple a _, ⟨_, Heap.get?_push_size _ rfl, rfl, rfl⟩, fun b hb => ?_, q⟩
  have e : b = s1.heap.objs.size := by simpa using hb
  subst e
  exact I1.fpOk (Nat.le_refl _) (I1.hok.fresh (Nat.le_refl _))
/-- a range object just made, walked -/
theorem range_it {pins : List (Addr × Obj)} {σ : St} {H : Hp} {s : Shared} {R : It → Hp → Prop} {E : Value → Shared → Prop} {lo hi : Int} {t u v : Tok} {tk : Nat} (I : Inv X pins σ H s) (h1 : -(2 ^ 62) ≤ lo) (h2 : lo < 2 ^ 62) (h3 : -(2 ^ 62) ≤ hi) (h4 : hi < 2 ^ 62)
    (q : R (Itr lo (hi - lo).toNat) H) : wpAny (model X.prog X.w) X.A (pyIter (.ref s.heap.objs.size)) (PIE X pins σ tg R) E { s with heap := s.heap.push { cls := .type "range", data := .fields #[.int lo t, .int hi u, .int 1 v] }, toks := tk } := by
  refine wpAny_pyIter_range (IsRange.new ..) (small_one h1 h2 h3 h4) ?_
  have I1 : Inv X pins σ H { s with heap := s.heap.push { cls := .type "range", data := .fields #[.int lo t, .int hi u, .int 1 v] }, toks := tk } := I.kept fun b o e => Heap.get?_push_of_some _ e
  refine ⟨(s.heap.push { cls := .type "range", data := .fields #[.int lo t, .int hi u, .int 1 v] }).objs.size, [(s.heap.push { cls := .type "range", data := .fields #[.int lo t, .int hi u, .int 1 v] }).objs.size], _, _, H, rfl,
    I1.kept (t' := tk) fun b o e => Heap.get?_push_of_some _ e, turn_range _ lo (hi - lo).toNat, ?_, fun b hb => ?_, q⟩
  · have e1 : lo + ((0 : Nat) : Int) * 1 = lo := by simp
    have e2 : (((hi - lo).toNat : Nat) : Int) - ((0 : Nat) : Int) = Builtin.Range.rangeSize lo hi 1 := by rw [rangeSize_one]; split <;> omega
    show IsRangeIter _ _ (lo + ((0 : Nat) : Int) * 1) ((((hi - lo).toNat : Nat) : Int) - ((0 : Nat) : Int)) 1
    rw [e1, e2]
    exact Heap.get?_push_size _ rfl
  · have e : b = (s.heap.push { cls := .type "range", data := .fields #[.int lo t, .int hi u, .int 1 v] }).objs.size := by simpa using hb
    subst e
    exact I1.fpOk (Nat.le_refl _) (I1.hok.fresh (Nat.le_refl _))
def iRng1 (ta : TA) : TI := fun σ H R => ta σ H fun vs H1 => ∃ j : Int, vs = [.int j] ∧ -(2 ^ 62) ≤ j ∧ j < 2 ^ 62 ∧ R (Itr 0 j.toNat) H1
def iRng2 (ta : TA) : TI := fun σ H R => ta σ H fun vs H1 => ∃ i j : Int, vs = [.int i, .int j] ∧ (-(2 ^ 62) ≤ i ∧ i < 2 ^ 62 ∧ -(2 ^ 62) ≤ j ∧ j < 2 ^ 62) ∧ R (Itr i (j - i).toNat) H1
theorem pi_range1 {a : Expr} {ta : TA} {p pos : Pos} (hg : Gl X "range") (hm : X.mg "range" = none) (ha : PA X [a] ta) (hs : starEach [a] X.env = [(false, eval a X.env)] := by rfl) : PI X tg (.Call (.Name "range" p) [a] [] pos) (iRng1 ta) := by
  intro pins s σ H R I h
  refine Call_ (ld_blt I hg hm boot_range (PyProof.Rows.callWith_type1 (thn (ha pos pins s σ H _ I h) fun us s1 ⟨vs, H1, I1, r1, q1⟩ => ?_) hs rfl))
  obtain ⟨j, e, q1, q2, q⟩ := q1
  subst e
  cases r1 with
  | cons r rr =>
    cases rr
    obtain ⟨t, rfl⟩ := r
    exact call_range_1 (range_it I1 (by omega) (by omega) q1 q2 (by simpa using q))
theorem pi_range2 {a b : Expr} {ta : TA} {p pos : Pos} (hg : Gl X "range") (hm : X.mg "range" = none) (ha : PA X [a, b] ta) (hs : starEach [a, b] X.env = [(false, eval a X.env), (false, eval b X.env)] := by rfl) (hs2 : starEach [b] X.env = [(false, eval b X.env)] := by rfl) :
    PI X tg (.Call (.Name "range" p) [a, b] [] pos) (iRng2 ta) := by
  intro pins s σ H R I h
  refine Call_ (ld_blt I hg hm boot_range (PyProof.Rows.callWith_type1 (thn (ha pos pins s σ H _ I h) fun us s1 ⟨vs, H1, I1, r1, q1⟩ => ?_) (by rw [hs, hs2]) (by rw [hs2]; rfl)))
  obtain ⟨i, j, e, ⟨q1, q2, q3, q4⟩, q⟩ := q1
  subst e
  cases r1 with
  | cons r rr =>
    cases rr with
    | cons r' rr =>
      cases rr
      obtain ⟨t, rfl⟩ := r
      obtain ⟨t', rfl⟩ := r'
      exact call_range_2 (range_it I1 q1 q2 q3 q4 q)

/-! ### for -/
/-- W: the invariant by the turn and a measure; N: what the body is to reach -/
def tFor (wi : TI) (g : TG) (tb : TS) : TS := fun D σ H => wi σ H fun J H1 => ∃ W : Nat → Nat → St → Hp → Prop, (∃ m, W 0 m σ H1) ∧ ∀ i m σ H, W i m σ H →
  (J.stop i H ∧ D.nx σ H) ∨ (J.go i H ∧ ∃ N : St → Hp → Prop, (∀ σ' H', N σ' H' → ∃ m', m' < m ∧ W (i + 1) m' σ' H') ∧ ∀ x H', J.yld i H x H' → g x σ H' fun σ2 H2 => tb { D with nx := N, ct := N, bk := D.nx } σ2 H2)
/-- the records at fp as they stand -/
def pinsAt (fp : List Addr) (h : Heap) : List (Addr × Obj) := fp.filterMap fun b => (h.get? b).map fun o => (b, o)
theorem mem_pinsAt {fp : List Addr} {h : Heap} {b : Addr} {o : Obj} (hb : b ∈ fp) (e : h.get? b = some o) : (b, o) ∈ pinsAt fp h := List.mem_filterMap.mpr ⟨b, hb, by rw [e]; rfl⟩
theorem of_pinsAt {fp : List Addr} {h : Heap} {p : Addr × Obj} (hp : p ∈ pinsAt fp h) : p.1 ∈ fp ∧ h.get? p.1 = some p.2 := by
  obtain ⟨b, hb, e⟩ := List.mem_filterMap.mp hp
  cases q : h.get? b with
  | none => rw [q] at e; cases e
  | some o =>
    rw [q] at e
    have e' : (b, o) = p := Option.some.inj e
    subst e'
    exact ⟨hb, q⟩
theorem Inv.pinned {pins : List (Addr × Obj)} {σ : St} {H : Hp} {s : Shared} {fp : List Addr} (I : Inv X pins σ H s) (hf : ∀ b ∈ fp, FpOk X pins H b) (ho : ∀ b ∈ fp, ∃ o, s.heap.get? b = some o ∧ ∀ v, o.data ≠ .cell v) : Inv X (pins ++ pinsAt fp s.heap) σ H s :=
  I.pins_of fun p hp => (List.mem_append.mp hp).elim (fun z => I.pin p (List.mem_append_right _ z)) fun z => by
    obtain ⟨hb, e⟩ := of_pinsAt z
    obtain ⟨f0, f1, f2, _⟩ := hf p.1 hb
    obtain ⟨o, e', d⟩ := ho p.1 hb
    rw [e] at e'; cases e'
    exact ⟨e, f0, f1, f2, d⟩
theorem Inv.unpinned {pins pl : List (Addr × Obj)} {σ : St} {H : Hp} {s : Shared} (I : Inv X (pins ++ pl) σ H s) : Inv X pins σ H s := I.pins_of fun p hp => I.pin p (List.mem_append_right _ (List.mem_append_left _ hp))
theorem ps_for {iter : Expr} {body : List Stmt} {wi : TI} {g : TG} {tb : TS} {pos : Pos} (hp : PassesOwn (model X.prog X.w) X.A X.env X.xe) (hc : X.calm = true) (hi : PI X tg iter wi) (hg : PG X tg g) (hb : PSs X body tb)
    (hs : ∀ x, foldedSetIterable iter X.env x = pure x := by intro _; rfl) : PS X (.For tg iter body [] pos) (tFor wi g tb) := by
  intro pins s σ H D I h
  refine wpAny_For (thn (hi pins s σ H _ I h) fun v s1 h1 => thn h1 fun itv s2 h2 => ?_) hs
  obtain ⟨it, fp, tn, J, H2, e, I2, T, st2, f2, W, ⟨m0, w0⟩, turn⟩ := h2
  subst e
  -- what stays true of the iterator's objects through the loop
  have stat : ∀ {H' : Hp}, (∀ b ∈ fp, H' b = none) → ∀ b ∈ fp, FpOk X pins H' b := fun hn b hb => ⟨hn b hb, (f2 b hb).2⟩
  refine codeAny_forLoop_any (fun n s' => ∃ i σ' H', Inv X pins σ' H' s' ∧ tn i s'.heap ∧ (∀ b ∈ fp, H' b = none) ∧ W i n σ' H') ?_ m0 ⟨0, σ, H2, I2, st2, fun b hb => (f2 b hb).1, w0⟩
  rintro n s3 ⟨i, σ3, H3, I3, st3, fr3, w3⟩
  rcases turn i n σ3 H3 w3 with ⟨stop, qn⟩ | ⟨go, N, hN, step⟩
  · refine wpAny_passesOwn hp (thn (T.done X rfl rfl rfl hc i pins s3 σ3 H3 X.xe I3 (stat fr3) st3 stop) fun r s4 ⟨hr, I4⟩ => ?_)
    subst hr
    exact wpAny_execs_nil ⟨σ3, H3, I4, qn⟩
  · refine wpAny_passesOwn hp (thn (T.item X rfl rfl rfl hc i pins s3 σ3 H3 X.xe I3 (stat fr3) st3 go) fun r s4 ⟨u, hr, h4⟩ => ?_)
    subst hr
    refine wpAny_passesOwn hp (thn h4 fun _ s5 ⟨x, H5, I5, r5, y5, st5, fr5⟩ => ?_)
    have I5' := I5.pinned (stat fr5) (T.obj _ _ st5)
    refine wpAny_passesOwn hp (thn (hg _ s5 σ3 H5 x u _ I5' r5 (step x H5 y5)) fun _ s6 ⟨σ6, H6, I6, q6⟩ => ?_)
    refine wpAny_passesOwn hp (thn (hb _ s6 σ6 H6 _ I6 q6) fun f s7 q7 => ?_)
    have again : ∀ {σ7 : St} {H7 : Hp}, Inv X (pins ++ pinsAt fp s5.heap) σ7 H7 s7 → N σ7 H7 → ∃ m, m < n ∧ ∃ i σ' H', Inv X pins σ' H' s7 ∧ tn i s7.heap ∧ (∀ b ∈ fp, H' b = none) ∧ W i m σ' H' := fun {σ7 H7} I7 n7 => by
      obtain ⟨m', hm, w7⟩ := hN σ7 H7 n7
      refine ⟨m', hm, i + 1, σ7, H7, I7.unpinned, T.keep _ _ _ st5 fun b hb o e => (I7.pin (b, o) (List.mem_append_right _ (List.mem_append_right _ (mem_pinsAt hb e)))).1, fun b hb => ?_, w7⟩
      obtain ⟨o, e, d⟩ := T.obj _ _ st5 b hb
      exact (I7.pin (b, o) (List.mem_append_right _ (List.mem_append_right _ (mem_pinsAt hb e)))).2.1
    cases f with
    | next => obtain ⟨σ7, H7, I7, n7⟩ := q7; exact again I7 n7
    | cont => obtain ⟨σ7, H7, I7, n7⟩ := q7; exact again I7 n7
    | brk => obtain ⟨σ7, H7, I7, q7⟩ := q7; exact ⟨σ7, H7, I7.unpinned, q7⟩
    | ret v => obtain ⟨x7, σ7, H7, I7, r7, q7⟩ := q7; exact ⟨x7, σ7, H7, I7.unpinned, r7, q7⟩
end

/-! ### the forms one uses -/
/-- over a list that the body leaves as it is -/
theorem for_list {K : PySem.W.Frag} {a : Addr} {xs : List V} {g : TG} {tb : TS} {D : Ends} {σ : St} {H : Hp} (Pv : Nat → St → Hp → Prop) (h0 : Pv 0 σ H) (hl : ∀ i σ H, i ≤ xs.length → Pv i σ H → SqL K H a xs)
    (hs : ∀ i x σ H, xs[i]? = some x → Pv i σ H → g x σ H fun σ2 H2 => tb { D with nx := Pv (i + 1), ct := Pv (i + 1), bk := D.nx } σ2 H2) (hd : ∀ σ H, Pv xs.length σ H → D.nx σ H) :
    ∃ W : Nat → Nat → St → Hp → Prop, (∃ m, W 0 m σ H) ∧ ∀ i m σ H, W i m σ H →
      ((Itl K a).stop i H ∧ D.nx σ H) ∨ ((Itl K a).go i H ∧ ∃ N : St → Hp → Prop, (∀ σ' H', N σ' H' → ∃ m', m' < m ∧ W (i + 1) m' σ' H') ∧ ∀ x H', (Itl K a).yld i H x H' → g x σ H' fun σ2 H2 => tb { D with nx := N, ct := N, bk := D.nx } σ2 H2) := by
  refine ⟨fun i m σ H => m = xs.length - i ∧ i ≤ xs.length ∧ Pv i σ H, ⟨xs.length, by simp, Nat.zero_le _, h0⟩, ?_⟩
  rintro i m σ H ⟨rfl, hi, p⟩
  have q := hl i σ H hi p
  by_cases hlt : i < xs.length
  · refine .inr ⟨⟨xs, xs[i], q, by simp [hlt]⟩, Pv (i + 1), fun σ' H' p' => ⟨xs.length - (i + 1), by omega, rfl, hlt, p'⟩, fun x H' y => ?_⟩
    obtain ⟨e, y⟩ := y
    subst e
    exact hs i x σ _ (y xs q) p
  · have e : i = xs.length := by omega
    subst e
    exact .inl ⟨⟨xs, q, Nat.le_refl _⟩, hd σ H p⟩
theorem for_tup {K : PySem.W.Frag} {a : Addr} {xs : List V} {g : TG} {tb : TS} {D : Ends} {σ : St} {H : Hp} (Pv : Nat → St → Hp → Prop) (h0 : Pv 0 σ H) (hl : ∀ i σ H, i ≤ xs.length → Pv i σ H → SqT K H a xs)
    (hs : ∀ i x σ H, xs[i]? = some x → Pv i σ H → g x σ H fun σ2 H2 => tb { D with nx := Pv (i + 1), ct := Pv (i + 1), bk := D.nx } σ2 H2) (hd : ∀ σ H, Pv xs.length σ H → D.nx σ H) :
    ∃ W : Nat → Nat → St → Hp → Prop, (∃ m, W 0 m σ H) ∧ ∀ i m σ H, W i m σ H →
      ((Itt K a).stop i H ∧ D.nx σ H) ∨ ((Itt K a).go i H ∧ ∃ N : St → Hp → Prop, (∀ σ' H', N σ' H' → ∃ m', m' < m ∧ W (i + 1) m' σ' H') ∧ ∀ x H', (Itt K a).yld i H x H' → g x σ H' fun σ2 H2 => tb { D with nx := N, ct := N, bk := D.nx } σ2 H2) := by
  refine ⟨fun i m σ H => m = xs.length - i ∧ i ≤ xs.length ∧ Pv i σ H, ⟨xs.length, by simp, Nat.zero_le _, h0⟩, ?_⟩
  rintro i m σ H ⟨rfl, hi, p⟩
  have q := hl i σ H hi p
  by_cases hlt : i < xs.length
  · refine .inr ⟨⟨xs, xs[i], q, by simp [hlt]⟩, Pv (i + 1), fun σ' H' p' => ⟨xs.length - (i + 1), by omega, rfl, hlt, p'⟩, fun x H' y => ?_⟩
    obtain ⟨e, y⟩ := y
    subst e
    exact hs i x σ _ (y xs q) p
  · have e : i = xs.length := by omega
    subst e
    exact .inl ⟨⟨xs, q, Nat.le_refl _⟩, hd σ H p⟩
theorem for_range {lo : Int} {n : Nat} {g : TG} {tb : TS} {D : Ends} {σ : St} {H : Hp} (Pv : Nat → St → Hp → Prop) (h0 : Pv 0 σ H)
    (hs : ∀ i σ H, i < n → Pv i σ H → g (.int (lo + i)) σ H fun σ2 H2 => tb { D with nx := Pv (i + 1), ct := Pv (i + 1), bk := D.nx } σ2 H2) (hd : ∀ σ H, Pv n σ H → D.nx σ H) :
    ∃ W : Nat → Nat → St → Hp → Prop, (∃ m, W 0 m σ H) ∧ ∀ i m σ H, W i m σ H →
      ((Itr lo n).stop i H ∧ D.nx σ H) ∨ ((Itr lo n).go i H ∧ ∃ N : St → Hp → Prop, (∀ σ' H', N σ' H' → ∃ m', m' < m ∧ W (i + 1) m' σ' H') ∧ ∀ x H', (Itr lo n).yld i H x H' → g x σ H' fun σ2 H2 => tb { D with nx := N, ct := N, bk := D.nx } σ2 H2) := by
  refine ⟨fun i m σ H => m = n - i ∧ i ≤ n ∧ Pv i σ H, ⟨n, by simp, Nat.zero_le _, h0⟩, ?_⟩
  rintro i m σ H ⟨rfl, hi, p⟩
  by_cases hlt : i < n
  · refine .inr ⟨hlt, Pv (i + 1), fun σ' H' p' => ⟨n - (i + 1), by omega, rfl, hlt, p'⟩, fun x H' y => ?_⟩
    obtain ⟨e, y⟩ := y
    subst e y
    exact hs i σ _ hlt p
  · have e : i = n := by omega
    subst e
    exact .inl ⟨Nat.le_refl _, hd σ H p⟩
/-- while, by a word and a measure of the state -/
theorem while_by {c : TT} {tb : TS} {D : Ends} {σ : St} {H : Hp} (Pv : St → Hp → Prop) (μ : St → Hp → Nat) (h0 : Pv σ H)
    (hs : ∀ σ H, Pv σ H → c σ H fun b H1 => if b = true then tb { D with nx := fun σ' H' => Pv σ' H' ∧ μ σ' H' < μ σ H, ct := fun σ' H' => Pv σ' H' ∧ μ σ' H' < μ σ H, bk := D.nx } σ H1 else D.nx σ H1)
    (mono : ∀ σ H Q Q', (∀ b H1, Q b H1 → Q' b H1) → c σ H Q → c σ H Q') : tWhile c tb D σ H := by
  refine ⟨fun m σ H => m = μ σ H ∧ Pv σ H, ⟨_, rfl, h0⟩, ?_⟩
  rintro m σ H ⟨rfl, p⟩
  refine mono σ H _ _ (fun b H1 q => ?_) (hs σ H p)
  cases b with
  | true => exact ⟨_, fun σ' H' ⟨p', l⟩ => ⟨_, l, rfl, p'⟩, q⟩
  | false => exact q
end L2

namespace L2
open PySem PySem.Spec PyProof.Rows

abbrev R2 := V → V → Hp → VK → Prop
/-- a two-place operation on values: f is binaryOp op, inplaceOp op or compareOp op -/
def OpR (X : Cx) (f : Value → Value → Sem Value) (r : R2) : Prop :=
  ∀ (pins : List (Addr × Obj)) (s : Shared) (σ : St) (H : Hp) (x y : V) (v u : Value) (Q : VK), Inv X pins σ H s → RelV x v → RelV y u → r x y H Q →
    wpAny (model X.prog X.w) X.A (f v u) (EP X pins σ Q) X.xe s
/-- a one-place operation -/
def UnR (X : Cx) (f : Value → Sem Value) (r : V → Hp → VK → Prop) : Prop :=
  ∀ (pins : List (Addr × Obj)) (s : Shared) (σ : St) (H : Hp) (x : V) (v : Value) (Q : VK), Inv X pins σ H s → RelV x v → r x H Q →
    wpAny (model X.prog X.w) X.A (f v) (EP X pins σ Q) X.xe s
/-- a call of a value that is known (a builtin, a type) with values -/
def CallR (X : Cx) (f : Value) (r : List V → Hp → VK → Prop) : Prop :=
  ∀ (pins : List (Addr × Obj)) (s : Shared) (σ : St) (H : Hp) (xs : List V) (us : List Value) (Q : VK), Inv X pins σ H s → Vals xs us → r xs H Q →
    wpAny (model X.prog X.w) X.A (call f us) (EP X pins σ Q) X.xe s
/-- a value's truth -/
def TruR (X : Cx) (r : V → Hp → (Bool → Hp → Prop) → Prop) : Prop :=
  ∀ (pins : List (Addr × Obj)) (s : Shared) (σ : St) (H : Hp) (x : V) (v : Value) (Q : Bool → Hp → Prop), Inv X pins σ H s → RelV x v → r x H Q →
    wpAny (model X.prog X.w) X.A (truthy v) (TP X pins σ Q) X.xe s

def tOp (r : R2) (ta tb : TE) : TE := fun σ H Q => ta σ H fun x H1 => tb σ H1 fun y H2 => r x y H2 Q
def tUn (r : V → Hp → VK → Prop) (ta : TE) : TE := fun σ H Q => ta σ H fun x H1 => r x H1 Q
/-- ints in, under C, and a value out -/
def rI (C : Int → Int → Prop) (g : Int → Int → V) : R2 := fun x y H Q => ∃ i j, x = .int i ∧ y = .int j ∧ C i j ∧ Q (g i j) H
def rI0 (g : Int → Int → V) : R2 := fun x y H Q => ∃ i j, x = .int i ∧ y = .int j ∧ Q (g i j) H
def rU (g : Int → V) : V → Hp → VK → Prop := fun x H Q => ∃ i, x = .int i ∧ Q (g i) H

section
variable {X : Cx} {a b c : Expr} {ta tb tc : TE} {pos : Pos}

theorem binT (ha : PE X a ta) (hb : PE X b tb) {pins : List (Addr × Obj)} {s : Shared} {σ : St} {H : Hp} {R : V → V → Hp → Prop} (I : Inv X pins σ H s)
    (h : ta σ H fun x H1 => tb σ H1 fun y H2 => R x y H2) {Q : Value → Shared → Prop} {f : Value → Value → Sem Value}
    (hf : ∀ v u s2 x y H2, Inv X pins σ H2 s2 → RelV x v → RelV y u → R x y H2 → wpAny (model X.prog X.w) X.A (f v u) Q X.xe s2) :
    wpAny (model X.prog X.w) X.A (eval a X.env) (fun v s₁ => wpAny (model X.prog X.w) X.A (eval b X.env) (fun u s₂ => wpAny (model X.prog X.w) X.A (f v u) Q X.xe s₂) X.xe s₁) X.xe s := by
  refine thn (ha pins s σ H _ I h) fun v s1 ⟨x, H1, I1, r1, q1⟩ => ?_
  refine thn (hb pins s1 σ H1 _ I1 q1) fun u s2 ⟨y, H2, I2, r2, q2⟩ => ?_
  exact hf v u s2 x y H2 I2 r1 r2 q2

theorem pe_op {op : Operator} {r : R2} (ho : OpR X (binaryOp op) r) (ha : PE X a ta) (hb : PE X b tb) : PE X (.BinOp a op b pos) (tOp r ta tb) := by
  intro pins s σ H Q I h
  exact wpAny_BinOp (binT ha hb I h fun v u s2 x y H2 I2 rx ry q => ho pins s2 σ H2 x y v u Q I2 rx ry q)
theorem pe_un {op : UnaryOp} {r : V → Hp → VK → Prop} (ho : UnR X (unaryOp op) r) (ha : PE X a ta) : PE X (.UnaryOp op a pos) (tUn r ta) := by
  intro pins s σ H Q I h
  exact UnaryOp_ (thn (ha pins s σ H _ I h) fun v s1 ⟨x, H1, I1, r1, q1⟩ => ho pins s1 σ H1 x v Q I1 r1 q1)
/-- a op= e at a name: the name's slot i -/
theorem augR {op : Operator} {r : R2} (ho : OpR X (inplaceOp op) r) {pins : List (Addr × Obj)} {s : Shared} {σ : St} {H : Hp} {x y : V} {v u : Value} {Q : VK} (I : Inv X pins σ H s)
    (rx : RelV x v) (ry : RelV y u) (q : r x y H Q) : wpAny (model X.prog X.w) X.A (inplaceOp op v u) (EP X pins σ Q) X.xe s := ho pins s σ H x y v u Q I rx ry q

/-! ### ints -/
theorem opI {f : Value → Value → Sem Value} {C : Int → Int → Prop} {g : Int → Int → Int}
    (rule : ∀ (i j : Int) (t u : Tok) (s : Shared) (Q : Value → Shared → Prop) (E : Value → Shared → Prop), C i j → Q (.int (g i j) s.toks) { s with toks := s.toks + 1 } → wpAny (model X.prog X.w) X.A (f (.int i t) (.int j u)) Q E s) :
    OpR X f (rI C fun i j => .int (g i j)) := by
  intro pins s σ H x y v u Q I rx ry h
  obtain ⟨i, j, rfl, rfl, hc, q⟩ := h
  obtain ⟨t, rfl⟩ := rx
  obtain ⟨t', rfl⟩ := ry
  exact rule i j t t' s _ _ hc ⟨.int (g i j), H, I.tok _, ⟨_, rfl⟩, q⟩
theorem opI0 {f : Value → Value → Sem Value} {g : Int → Int → Int}
    (rule : ∀ (i j : Int) (t u : Tok) (s : Shared) (Q : Value → Shared → Prop) (E : Value → Shared → Prop), Q (.int (g i j) s.toks) { s with toks := s.toks + 1 } → wpAny (model X.prog X.w) X.A (f (.int i t) (.int j u)) Q E s) :
    OpR X f (rI0 fun i j => .int (g i j)) := by
  intro pins s σ H x y v u Q I rx ry h
  obtain ⟨i, j, rfl, rfl, q⟩ := h
  obtain ⟨t, rfl⟩ := rx
  obtain ⟨t', rfl⟩ := ry
  exact rule i j t t' s _ _ ⟨.int (g i j), H, I.tok _, ⟨_, rfl⟩, q⟩
theorem opB0 {f : Value → Value → Sem Value} {g : Int → Int → Bool}
    (rule : ∀ (i j : Int) (t u : Tok) (s : Shared) (Q : Value → Shared → Prop) (E : Value → Shared → Prop), Q (.bool (g i j)) s → wpAny (model X.prog X.w) X.A (f (.int i t) (.int j u)) Q E s) :
    OpR X f (rI0 fun i j => .bl (g i j)) := by
  intro pins s σ H x y v u Q I rx ry h
  obtain ⟨i, j, rfl, rfl, q⟩ := h
  obtain ⟨t, rfl⟩ := rx
  obtain ⟨t', rfl⟩ := ry
  exact rule i j t t' s _ _ ⟨.bl (g i j), H, I, rfl, q⟩

def CDiv (i j : Int) : Prop := 0 < j ∧ j < 1073741824
def CDivN (i j : Int) : Prop := j ≠ 0 ∧ j.natAbs < 1073741824
def CPow (i j : Int) : Prop := 0 ≤ j ∧ j ≤ 1000000 ∧ i.natAbs < 2 ^ 64
def CMul (i j : Int) : Prop := (-(2 ^ 64) < i ∧ i < 2 ^ 64) ∨ (-(2 ^ 64) < j ∧ j < 2 ^ 64)
theorem CMul.ok {i j : Int} (h : CMul i j) : IntMulOk i j := by
  rcases h with ⟨h1, h2⟩ | ⟨h1, h2⟩
  · exact .of_left (intBits_le_64 h1 h2)
  · exact .of_right (intBits_le_64 h1 h2)
theorem two_pow_nn (k : Nat) : (0 : Int) ≤ 2 ^ k := by
  rw [two_pow_cast]
  exact Int.natCast_nonneg _

theorem op_add : OpR X (binaryOp .Add) (rI0 fun i j => .int (i + j)) := opI0 fun _ _ _ _ _ _ _ q => add_int q
theorem op_sub : OpR X (binaryOp .Sub) (rI0 fun i j => .int (i - j)) := opI0 fun _ _ _ _ _ _ _ q => sub_int q
theorem op_mul : OpR X (binaryOp .Mult) (rI CMul fun i j => .int (i * j)) := opI fun _ _ _ _ _ _ _ hc q => mul_int q hc.ok
/-- // by a positive divisor -/
theorem op_fdiv : OpR X (binaryOp .FloorDiv) (rI CDiv fun i j => .int (i / j)) := opI fun i j _ _ _ _ _ hc q => by
  have h1 : (0 : Int) < j := hc.1
  have h2 : j < 1073741824 := hc.2
  exact floordiv_int (by omega) (by rw [Int.fdiv_eq_ediv_of_nonneg i (by omega)]; exact q) (.inl (PyProof.noPylong_small (by omega)))
theorem op_fdivN : OpR X (binaryOp .FloorDiv) (rI CDivN fun i j => .int (i.fdiv j)) := opI fun _ _ _ _ _ _ _ hc q => floordiv_int hc.1 q (.inl (PyProof.noPylong_small hc.2))
/-- % by a positive divisor of any size -/
theorem op_mod : OpR X (binaryOp .Mod) (rI (fun _ j => 0 < j) fun i j => .int (i % j)) := opI fun i j _ _ _ _ _ hc q => by
  have h1 : (0 : Int) < j := hc
  exact mod_int' (by omega) (by rw [Int.fmod_eq_emod_of_nonneg i (by omega)]; exact q)
theorem op_modN : OpR X (binaryOp .Mod) (rI (fun _ j => j ≠ 0) fun i j => .int (i.fmod j)) := opI fun _ _ _ _ _ _ _ hc q => mod_int' hc q
theorem op_pow : OpR X (binaryOp .Pow) (rI CPow fun i j => .int (i ^ j.toNat)) := opI fun _ _ _ _ _ _ _ hc q => pow_int_small hc.1 hc.2.1 hc.2.2 q
theorem op_shl : OpR X (binaryOp .LShift) (rI CPow fun i j => .int (i * 2 ^ j.toNat)) := opI fun _ _ _ _ _ _ _ hc q => lshift_int_small hc.1 hc.2.1 hc.2.2 q
theorem op_shr : OpR X (binaryOp .RShift) (rI (fun _ j => 0 ≤ j) fun i j => .int (i / 2 ^ j.toNat)) := opI fun i j _ _ _ _ _ hc q =>
  rshift_int hc (by rw [Int.fdiv_eq_ediv_of_nonneg i (two_pow_nn _)]; exact q)
theorem op_and : OpR X (binaryOp .BitAnd) (rI0 fun i j => .int (Builtin.bitAnd i j)) := opI0 fun _ _ _ _ _ _ _ q => and_int q
theorem op_or : OpR X (binaryOp .BitOr) (rI0 fun i j => .int (Builtin.bitOr i j)) := opI0 fun _ _ _ _ _ _ _ q => or_int q
theorem op_xor : OpR X (binaryOp .BitXor) (rI0 fun i j => .int (Builtin.bitXor i j)) := opI0 fun _ _ _ _ _ _ _ q => xor_int q

theorem iop_add : OpR X (inplaceOp .Add) (rI0 fun i j => .int (i + j)) := opI0 fun _ _ _ _ _ _ _ q => iadd_int q
theorem iop_sub : OpR X (inplaceOp .Sub) (rI0 fun i j => .int (i - j)) := opI0 fun _ _ _ _ _ _ _ q => isub_int q
theorem iop_mul : OpR X (inplaceOp .Mult) (rI CMul fun i j => .int (i * j)) := opI fun _ _ _ _ _ _ _ hc q => imul_int q hc.ok
theorem iop_fdiv : OpR X (inplaceOp .FloorDiv) (rI CDiv fun i j => .int (i / j)) := opI fun i j _ _ _ _ _ hc q => by
  have h1 : (0 : Int) < j := hc.1
  have h2 : j < 1073741824 := hc.2
  exact ifloordiv_int (by omega) (by rw [Int.fdiv_eq_ediv_of_nonneg i (by omega)]; exact q) (.inl (PyProof.noPylong_small (by omega)))
theorem iop_mod : OpR X (inplaceOp .Mod) (rI (fun _ j => 0 < j) fun i j => .int (i % j)) := opI fun i j _ _ _ _ _ hc q => by
  have h1 : (0 : Int) < j := hc
  exact imod_int (by omega) (by rw [Int.fmod_eq_emod_of_nonneg i (by omega)]; exact q)
theorem iop_shl : OpR X (inplaceOp .LShift) (rI CPow fun i j => .int (i * 2 ^ j.toNat)) := opI fun _ _ _ _ _ _ _ hc q => ilshift_int_small hc.1 hc.2.1 hc.2.2 q
theorem iop_shr : OpR X (inplaceOp .RShift) (rI (fun _ j => 0 ≤ j) fun i j => .int (i / 2 ^ j.toNat)) := opI fun i j _ _ _ _ _ hc q =>
  irshift_int hc (by rw [Int.fdiv_eq_ediv_of_nonneg i (two_pow_nn _)]; exact q)
theorem iop_and : OpR X (inplaceOp .BitAnd) (rI0 fun i j => .int (Builtin.bitAnd i j)) := opI0 fun _ _ _ _ _ _ _ q => iand_int q
theorem iop_or : OpR X (inplaceOp .BitOr) (rI0 fun i j => .int (Builtin.bitOr i j)) := opI0 fun _ _ _ _ _ _ _ q => ior_int q
theorem iop_xor : OpR X (inplaceOp .BitXor) (rI0 fun i j => .int (Builtin.bitXor i j)) := opI0 fun _ _ _ _ _ _ _ q => ixor_int q

theorem unI {f : Value → Sem Value} {g : Int → Int}
    (rule : ∀ (i : Int) (t : Tok) (s : Shared) (Q : Value → Shared → Prop) (E : Value → Shared → Prop), Q (.int (g i) s.toks) { s with toks := s.toks + 1 } → wpAny (model X.prog X.w) X.A (f (.int i t)) Q E s) :
    UnR X f (rU fun i => .int (g i)) := by
  intro pins s σ H x v Q I rx h
  obtain ⟨i, rfl, q⟩ := h
  obtain ⟨t, rfl⟩ := rx
  exact rule i t s _ _ ⟨.int (g i), H, I.tok _, ⟨_, rfl⟩, q⟩
theorem un_neg : UnR X (unaryOp .USub) (rU fun i => .int (-i)) := unI fun _ _ _ _ _ q => neg_int q
theorem un_inv : UnR X (unaryOp .Invert) (rU fun i => .int (Builtin.bitNot i)) := unI fun _ _ _ _ _ q => invert_int q

/-! ### bools among ints: n += (a < b) -/
theorem op_add_ib : OpR X (binaryOp .Add) (fun x y H Q => ∃ i k, x = .int i ∧ y = .bl k ∧ Q (.int (i + b2i k)) H) := by
  intro pins s σ H x y v u Q I rx ry h
  obtain ⟨i, k, rfl, rfl, q⟩ := h
  obtain ⟨t, rfl⟩ := rx
  cases ry
  exact add_int_bool ⟨.int (i + b2i k), H, I.tok _, ⟨_, rfl⟩, q⟩
end

/-! ### comparisons -/
/-- the scalars that == tells apart as data does -/
def scal : V → V → Bool
  | .non, .non => true | .non, .int _ => true | .int _, .non => true | .non, .bl _ => true | .bl _, .non => true | .non, .str _ => true | .str _, .non => true
  | .int _, .int _ => true | .bl _, .bl _ => true | .str _, .str _ => true | .byt _, .byt _ => true
  | .int _, .str _ => true | .str _, .int _ => true | .bl _, .str _ => true | .str _, .bl _ => true
  | _, _ => false
def rEq : R2 := fun x y H Q => scal x y = true ∧ Q (.bl (decide (x = y))) H
def rNe : R2 := fun x y H Q => scal x y = true ∧ Q (.bl (!decide (x = y))) H

theorem dec_int {i j : Int} : decide (V.int i = V.int j) = (i == j) := by
  rw [Bool.eq_iff_iff]
  simp
theorem dec_bl {i j : Bool} : decide (V.bl i = V.bl j) = (i == j) := by
  rw [Bool.eq_iff_iff]
  simp
theorem dec_str {i j : Str} : decide (V.str i = V.str j) = (i == j) := by
  rw [Bool.eq_iff_iff]
  simp
theorem dec_byt {i j : Array UInt8} : decide (V.byt i = V.byt j) = (i.toList == j.toList) := by
  rw [Bool.eq_iff_iff]
  cases i
  cases j
  simp

section
variable {X : Cx} {a b c : Expr} {ta tb tc : TE} {pos : Pos}
theorem fin_bl {pins : List (Addr × Obj)} {σ : St} {H : Hp} {s : Shared} {Q : VK} {k k' : Bool} (I : Inv X pins σ H s) (q : Q (.bl k) H) (e : k = k') : EP X pins σ Q (.bool k') s := by
  subst e
  exact ⟨.bl k, H, I, rfl, q⟩
theorem op_eq : OpR X (compareOp .Eq) rEq := by
  intro pins s σ H x y v u Q I rx ry h
  obtain ⟨hs, q⟩ := h
  cases x with
  | non =>
    cases rx
    cases y with
    | non => cases ry; exact PySem.EqNone.eq_none_none (fin_bl I q (by simp))
    | bl j => cases ry; exact PySem.EqNone.eq_none_bool (fin_bl I q (by simp))
    | int j => obtain ⟨t', rfl⟩ := ry; exact PySem.EqNone.eq_none_int (fin_bl I q (by simp))
    | str j => obtain ⟨t', rfl⟩ := ry; exact PySem.EqNone.eq_none_str (fin_bl I q (by simp))
    | _ => exact absurd (show false = true from hs) Bool.false_ne_true
  | bl i =>
    cases rx
    cases y with
    | non => cases ry; exact PySem.EqNone.eq_bool_none (fin_bl I q (by simp))
    | bl j => cases ry; exact eq_bool (fin_bl I q dec_bl)
    | str j => obtain ⟨t', rfl⟩ := ry; exact PySem.EqMixed.eq_bool_str (fin_bl I q (by simp))
    | _ => exact absurd (show false = true from hs) Bool.false_ne_true
  | int i =>
    obtain ⟨t, rfl⟩ := rx
    cases y with
    | non => cases ry; exact PySem.EqNone.eq_int_none (fin_bl I q (by simp))
    | int j => obtain ⟨t', rfl⟩ := ry; exact eq_int (fin_bl I q dec_int)
    | str j => obtain ⟨t', rfl⟩ := ry; exact PySem.EqMixed.eq_int_str (fin_bl I q (by simp))
    | _ => exact absurd (show false = true from hs) Bool.false_ne_true
  | str i =>
    obtain ⟨t, rfl⟩ := rx
    cases y with
    | non => cases ry; exact PySem.EqNone.eq_str_none (fin_bl I q (by simp))
    | bl j => cases ry; exact PySem.EqMixed.eq_str_bool (fin_bl I q (by simp))
    | int j => obtain ⟨t', rfl⟩ := ry; exact PySem.EqMixed.eq_str_int (fin_bl I q (by simp))
    | str j => obtain ⟨t', rfl⟩ := ry; exact eq_str (fin_bl I q dec_str)
    | _ => exact absurd (show false = true from hs) Bool.false_ne_true
  | byt i =>
    obtain ⟨t, rfl⟩ := rx
    cases y with
    | byt j => obtain ⟨t', rfl⟩ := ry; exact PySem.W.eq_bytes (fin_bl I q dec_byt)
    | _ => exact absurd (show false = true from hs) Bool.false_ne_true
  | _ => cases y <;> exact absurd (show false = true from hs) Bool.false_ne_true
theorem op_ne : OpR X (compareOp .NotEq) rNe := by
  intro pins s σ H x y v u Q I rx ry h
  obtain ⟨hs, q⟩ := h
  cases x with
  | non =>
    cases rx
    cases y with
    | non => cases ry; exact PySem.EqNone.ne_none_none (fin_bl I q (by simp))
    | bl j => cases ry; exact PySem.EqNone.ne_none_bool (fin_bl I q (by simp))
    | int j => obtain ⟨t', rfl⟩ := ry; exact PySem.EqNone.ne_none_int (fin_bl I q (by simp))
    | str j => obtain ⟨t', rfl⟩ := ry; exact PySem.EqNone.ne_none_str (fin_bl I q (by simp))
    | _ => exact absurd (show false = true from hs) Bool.false_ne_true
  | bl i =>
    cases rx
    cases y with
    | non => cases ry; exact PySem.EqNone.ne_bool_none (fin_bl I q (by simp))
    | bl j => cases ry; exact ne_bool (fin_bl I q (congrArg not dec_bl))
    | str j => obtain ⟨t', rfl⟩ := ry; exact PySem.EqMixed.ne_bool_str (fin_bl I q (by simp))
    | _ => exact absurd (show false = true from hs) Bool.false_ne_true
  | int i =>
    obtain ⟨t, rfl⟩ := rx
    cases y with
    | non => cases ry; exact PySem.EqNone.ne_int_none (fin_bl I q (by simp))
    | int j => obtain ⟨t', rfl⟩ := ry; exact ne_int (fin_bl I q (congrArg not dec_int))
    | str j => obtain ⟨t', rfl⟩ := ry; exact PySem.EqMixed.ne_int_str (fin_bl I q (by simp))
    | _ => exact absurd (show false = true from hs) Bool.false_ne_true
  | str i =>
    obtain ⟨t, rfl⟩ := rx
    cases y with
    | non => cases ry; exact PySem.EqNone.ne_str_none (fin_bl I q (by simp))
    | bl j => cases ry; exact PySem.EqMixed.ne_str_bool (fin_bl I q (by simp))
    | int j => obtain ⟨t', rfl⟩ := ry; exact PySem.EqMixed.ne_str_int (fin_bl I q (by simp))
    | str j => obtain ⟨t', rfl⟩ := ry; exact ne_str (fin_bl I q (congrArg not dec_str))
    | _ => exact absurd (show false = true from hs) Bool.false_ne_true
  | byt i =>
    obtain ⟨t, rfl⟩ := rx
    cases y with
    | byt j => obtain ⟨t', rfl⟩ := ry; exact PySem.W.ne_bytes (fin_bl I q (congrArg not dec_byt))
    | _ => exact absurd (show false = true from hs) Bool.false_ne_true
  | _ => cases y <;> exact absurd (show false = true from hs) Bool.false_ne_true

theorem op_lt : OpR X (compareOp .Lt) (rI0 fun i j => .bl (decide (i < j))) := opB0 fun _ _ _ _ _ _ _ q => lt_int q
theorem op_le : OpR X (compareOp .LtE) (rI0 fun i j => .bl (decide (i ≤ j))) := opB0 fun _ _ _ _ _ _ _ q => le_int q
theorem op_gt : OpR X (compareOp .Gt) (rI0 fun i j => .bl (decide (j < i))) := opB0 fun _ _ _ _ _ _ _ q => gt_int q
theorem op_ge : OpR X (compareOp .GtE) (rI0 fun i j => .bl (decide (j ≤ i))) := opB0 fun _ _ _ _ _ _ _ q => ge_int q
theorem op_lt_str : OpR X (compareOp .Lt) (fun x y H Q => ∃ i j, x = .str i ∧ y = .str j ∧ Q (.bl (decide (i.cps.toList < j.cps.toList))) H) := by
  intro pins s σ H x y v u Q I rx ry h
  obtain ⟨i, j, rfl, rfl, q⟩ := h
  obtain ⟨t, rfl⟩ := rx
  obtain ⟨t', rfl⟩ := ry
  exact lt_str (fin_bl I q rfl)
/-- the one string within the other -/
theorem op_in_str : OpR X (compareOp .In) (fun x y H Q => ∃ i j, x = .str i ∧ y = .str j ∧ Q (.bl (!(Builtin.Str.occurrences j i 0 j.length 1).isEmpty)) H) := by
  intro pins s σ H x y v u Q I rx ry h
  obtain ⟨i, j, rfl, rfl, q⟩ := h
  obtain ⟨t, rfl⟩ := rx
  obtain ⟨t', rfl⟩ := ry
  exact in_str (fin_bl I q rfl)

/-- is None, is not None: the right side a value none -/
theorem op_isN : OpR X (compareOp .Is) (fun x y H Q => y = .non ∧ Q (.bl (decide (x = .non))) H) := by
  intro pins s σ H x y v u Q I rx ry h
  obtain ⟨rfl, q⟩ := h
  cases ry
  refine is_none_gen (fin_bl I q ?_)
  cases x <;> first
    | (cases rx; rfl)
    | (obtain ⟨t, rfl⟩ := rx; rfl)
theorem op_notN : OpR X (compareOp .IsNot) (fun x y H Q => y = .non ∧ Q (.bl (!decide (x = .non))) H) := by
  intro pins s σ H x y v u Q I rx ry h
  obtain ⟨rfl, q⟩ := h
  cases ry
  refine isnot_none_gen (fin_bl I q ?_)
  cases x <;> first
    | (cases rx; rfl)
    | (obtain ⟨t, rfl⟩ := rx; rfl)

theorem op_notin_str : OpR X (compareOp .NotIn) (fun x y H Q => ∃ i j, x = .str i ∧ y = .str j ∧ Q (.bl (!(!(Builtin.Str.occurrences j i 0 j.length 1).isEmpty))) H) := by
  intro pins s σ H x y v u Q I rx ry h
  obtain ⟨i, j, rfl, rfl, q⟩ := h
  obtain ⟨t, rfl⟩ := rx
  obtain ⟨t', rfl⟩ := ry
  exact notIn_str (fin_bl I q rfl)
/-- is, is not of two objects that are tracked lists or instances -/
def isObj : HO → Bool
  | .lst _ => true
  | .ins _ _ _ => true
  | _ => false
theorem obj_there {pins : List (Addr × Obj)} {s : Shared} {σ : St} {H : Hp} {a : Addr} {o : HO} (I : Inv X pins σ H s) (h : H a = some o) (p : isObj o = true) : ∃ ob, s.heap.get? a = some ob ∧ ob.cls ≠ .type "tuple" := by
  cases o with
  | lst xs =>
    obtain ⟨_, its, n, _, e⟩ : xs.length ≤ sizeLine ∧ ∃ (its : List Value) (n : Nat), Vals xs its ∧ s.heap.get? a = some { cls := .type "list", data := .seq its.toArray n } := I.hok a _ h
    exact ⟨_, e, (by show Value.type "list" ≠ .type "tuple"; decide +kernel)⟩
  | ins C dx fs =>
    have x := I.hok a _ h
    obtain ⟨_, _, _, e, _⟩ := x
    exact ⟨_, e, (by show Value.ref C ≠ .type "tuple"; exact fun z => by cases z)⟩
  | _ => exact absurd (show false = true from p) Bool.false_ne_true
theorem op_is_ref : OpR X (compareOp .Is) (fun x y H Q => ∃ a b oa ob, x = .ref a ∧ y = .ref b ∧ H a = some oa ∧ isObj oa = true ∧ H b = some ob ∧ isObj ob = true ∧ Q (.bl (decide (a = b))) H) := by
  intro pins s σ H x y v u Q I rx ry h
  obtain ⟨a, b, oa, ob, rfl, rfl, ha, pa, hb, pb, q⟩ := h
  cases rx
  cases ry
  obtain ⟨o1, e1, n1⟩ := obj_there I ha pa
  obtain ⟨o2, e2, _⟩ := obj_there I hb pb
  by_cases z : a = b
  · subst z
    exact wpAny_is_ref_self (fin_bl I q (by simp))
  · exact wpAny_is_ref_other z e1 e2 n1 (fin_bl I q (by simp [z]))
theorem op_isnot_ref : OpR X (compareOp .IsNot) (fun x y H Q => ∃ a b oa ob, x = .ref a ∧ y = .ref b ∧ H a = some oa ∧ isObj oa = true ∧ H b = some ob ∧ isObj ob = true ∧ Q (.bl (!decide (a = b))) H) := by
  intro pins s σ H x y v u Q I rx ry h
  obtain ⟨a, b, oa, ob, rfl, rfl, ha, pa, hb, pb, q⟩ := h
  cases rx
  cases ry
  obtain ⟨o1, e1, n1⟩ := obj_there I ha pa
  obtain ⟨o2, e2, _⟩ := obj_there I hb pb
  by_cases z : a = b
  · subst z
    exact wpAny_isNot_ref_self (fin_bl I q (by simp))
  · exact wpAny_isNot_ref_other z e1 e2 n1 (fin_bl I q (by simp [z]))

/-- two rules for one operation: by cases -/
theorem OpR.or {f : Value → Value → Sem Value} {r r' : R2} (h : OpR X f r) (h' : OpR X f r') : OpR X f (fun x y H Q => r x y H Q ∨ r' x y H Q) := by
  intro pins s σ H x y v u Q I rx ry q
  rcases q with q | q
  · exact h pins s σ H x y v u Q I rx ry q
  · exact h' pins s σ H x y v u Q I rx ry q

theorem nomark (b : Expr) {op : CmpOp} (h : op ≠ .In := by decide) (h2 : op ≠ .NotIn := by decide) : behindInMarks op b = false := by
  have e1 : (op == CmpOp.In) = false := by cases op <;> first | rfl | exact absurd rfl h
  have e2 : (op == CmpOp.NotIn) = false := by cases op <;> first | rfl | exact absurd rfl h2
  cases b <;> simp [behindInMarks, e1, e2]
/-- a comparison as a value; hm: nomark b, or (for in, not in) by with_unfolding_all rfl -/
theorem pe_cmpR {op : CmpOp} {r : R2} (ho : OpR X (compareOp op) r) (ha : PE X a ta) (hb : PE X b tb) (hm : behindInMarks op b = false) : PE X (.Compare a [op] [b] pos) (tOp r ta tb) := by
  intro pins s σ H Q I h
  exact wpAny_Compare1 (binT ha hb I h fun v u s2 x y H2 I2 rx ry q => ho pins s2 σ H2 x y v u Q I2 rx ry q) hm
/-- a reading of a value as a test -/
def tTest (t : TE) : TT := fun σ H Q => t σ H fun x H' => ∃ k, x = .bl k ∧ Q k H'
theorem pt_cmpR {op : CmpOp} {r : R2} (ho : OpR X (compareOp op) r) (ha : PE X a ta) (hb : PE X b tb) (hm : behindInMarks op b = false) : PT X (.Compare a [op] [b] pos) (tTest (tOp r ta tb)) := by
  intro pins s σ H Q I h
  refine wpAny_isTrue_Compare1 (thn (ha pins s σ H _ I h) fun v s1 ⟨x, H1, I1, r1, q1⟩ => thn (hb pins s1 σ H1 _ I1 q1) fun u s2 ⟨y, H2, I2, r2, q2⟩ =>
    thn (ho pins s2 σ H2 x y v u _ I2 r1 r2 q2) fun c s3 ⟨z, H3, I3, r3, k, e, q3⟩ => ?_) hm
  subst e
  cases r3
  exact wpAny_truthy_bool ⟨H3, I3, q3⟩
/-- a op1 b op2 c -/
def tChain (r r' : R2) (ta tb tc : TE) : TE := fun σ H Q => ta σ H fun x H1 => tb σ H1 fun y H2 => r x y H2 fun z H3 => ∃ k, z = .bl k ∧
  (if k = true then tc σ H3 fun w' H4 => r' y w' H4 Q else Q (.bl false) H3)
theorem pe_chain {op op' : CmpOp} {r r' : R2} (ho : OpR X (compareOp op) r) (ho' : OpR X (compareOp op') r') (ha : PE X a ta) (hb : PE X b tb) (hc : PE X c tc)
    (hm : lastMarks [op, op'] [b, c] = false := by with_unfolding_all rfl) : PE X (.Compare a [op, op'] [b, c] pos) (tChain r r' ta tb tc) := by
  intro pins s σ H Q I h
  refine Compare_chain (thn (ha pins s σ H _ I h) fun v s1 ⟨x, H1, I1, r1, q1⟩ => chain_link (thn (hb pins s1 σ H1 _ I1 q1) fun u s2 ⟨y, H2, I2, r2, q2⟩ =>
    thn (ho pins s2 σ H2 x y v u _ I2 r1 r2 q2) fun d s3 ⟨z, H3, I3, r3, k, e, q3⟩ => ?_)) hm
  subst e
  cases r3
  refine wpAny_truthy_bool ?_
  cases k with
  | false => exact ite_ff ⟨.bl false, H3, I3, rfl, q3⟩
  | true => exact ite_tt (chain_last (thn (hc pins s3 σ H3 _ I3 q3) fun w' s4 ⟨z', H4, I4, r4, q4⟩ => ho' pins s4 σ H4 y z' u w' Q I4 r2 r4 q4))
theorem pt_chain {op op' : CmpOp} {r r' : R2} (ho : OpR X (compareOp op) r) (ho' : OpR X (compareOp op') r') (ha : PE X a ta) (hb : PE X b tb) (hc : PE X c tc)
    (hm : lastMarks [op, op'] [b, c] = false := by with_unfolding_all rfl) : PT X (.Compare a [op, op'] [b, c] pos) (tTest (tChain r r' ta tb tc)) := by
  intro pins s σ H Q I h
  refine isTrue_chain (thn (ha pins s σ H _ I h) fun v s1 ⟨x, H1, I1, r1, q1⟩ => test_link (thn (hb pins s1 σ H1 _ I1 q1) fun u s2 ⟨y, H2, I2, r2, q2⟩ =>
    thn (ho pins s2 σ H2 x y v u _ I2 r1 r2 q2) fun d s3 ⟨z, H3, I3, r3, k, e, q3⟩ => ?_)) hm
  subst e
  cases r3
  refine wpAny_truthy_bool ?_
  cases k with
  | false =>
    obtain ⟨k', e', q'⟩ := q3
    cases e'
    exact ite_ff ⟨H3, I3, q'⟩
  | true =>
    refine ite_tt (test_last (thn (hc pins s3 σ H3 _ I3 q3) fun w' s4 ⟨z', H4, I4, r4, q4⟩ => thn (ho' pins s4 σ H4 y z' u w' _ I4 r2 r4 q4) fun d' s5 ⟨z2, H5, I5, r5, k2, e2, q5⟩ => ?_))
    subst e2
    cases r5
    exact wpAny_truthy_bool ⟨H5, I5, q5⟩

/-! ### truth -/
/-- a value's truth by the abstract heap -/
def TruV (K : PySem.W.Frag) (x : V) (H : Hp) (k : Bool) : Prop :=
  match x with
  | .non => k = false
  | .bl b => k = b
  | .int i => k = (i != 0)
  | .str y => y.length ≤ sizeLine ∧ k = ((y.length : Int) != 0)
  | .byt y => y.size ≤ sizeLine ∧ k = ((y.size : Int) != 0)
  | .ref p => (∃ xs, SqL K H p xs ∧ k = !xs.isEmpty) ∨ (∃ xs, SqT K H p xs ∧ k = !xs.isEmpty) ∨ ∃ kvs, H p = some (.dK kvs) ∧ k = !kvs.isEmpty
  | _ => False
theorem isEmpty_kv {κ : Type} {kvs : List (κ × V)} {vs : List (κ × Value)} (r : KV kvs vs) : (!vs.isEmpty) = !kvs.isEmpty := by
  cases r <;> rfl
theorem isEmpty_of {xs : List V} {its : List Value} (r : Vals xs its) : (!its.toArray.isEmpty) = !xs.isEmpty := by
  cases r <;> simp
theorem line63 : (sizeLine : Nat) < 2 ^ 63 := by rw [sizeLine_eq]; decide
theorem tru_ok : TruR X (fun x H Q => ∃ k, TruV X.K x H k ∧ Q k H) := by
  intro pins s σ H x v Q I rx h
  obtain ⟨k, e, q⟩ := h
  have hl := line63
  have hs : sizeLine = 16777216 := sizeLine_eq
  cases x with
  | non =>
    cases rx
    have e' : k = false := e
    subst e'
    exact truthy_none ⟨H, I, q⟩
  | bl b =>
    cases rx
    have e' : k = b := e
    subst e'
    exact wpAny_truthy_bool ⟨H, I, q⟩
  | int i =>
    obtain ⟨t, rfl⟩ := rx
    have e' : k = (i != 0) := e
    subst e'
    exact PySem.P.truthy_int ⟨H, I, q⟩
  | str y =>
    obtain ⟨t, rfl⟩ := rx
    obtain ⟨hy, e'⟩ : y.length ≤ sizeLine ∧ k = ((y.length : Int) != 0) := e
    subst e'
    exact PySem.P.truthy_str (by omega) ⟨H, I.tok _, q⟩
  | byt y =>
    obtain ⟨t, rfl⟩ := rx
    obtain ⟨hy, e'⟩ : y.size ≤ sizeLine ∧ k = ((y.size : Int) != 0) := e
    subst e'
    exact PySem.W.truthy_bytes (by omega) ⟨H, I.tok _, q⟩
  | ref p =>
    cases rx
    have e' : (∃ xs, SqL X.K H p xs ∧ k = !xs.isEmpty) ∨ (∃ xs, SqT X.K H p xs ∧ k = !xs.isEmpty) ∨ ∃ kvs, H p = some (.dK kvs) ∧ k = !kvs.isEmpty := e
    rcases e' with ⟨xs, hx, e'⟩ | ⟨xs, hx, e'⟩ | ⟨kvs, hx, e'⟩
    · subst e'
      obtain ⟨its, r, pl, hz⟩ := I.list hx
      have hlen := r.length
      exact wpAny_truthy_list pl.isList (by simp only [List.size_toArray]; omega) ⟨H, I.tok _, by rw [isEmpty_of r]; exact q⟩
    · subst e'
      obtain ⟨its, r, pl, hz⟩ := I.tuple hx
      have hlen := r.length
      exact truthy_tuple pl (by simp only [List.size_toArray]; omega) ⟨H, I.tok _, by rw [isEmpty_of r]; exact q⟩
    · subst e'
      obtain ⟨hz, hS, vs, r, m⟩ : kvs.length ≤ sizeLine ∧ (p == sysModules) = false ∧ ∃ vs, KV kvs vs ∧ s.heap.DictOf (mixKind X.prog X.w) p vs := I.hok p _ hx
      have hlen : kvs.length = vs.length := Paired.length r
      exact wpAny_truthy_dict hS m (by omega) ⟨H, I.tok _, by rw [isEmpty_kv r]; exact q⟩
  | _ => exact (show False from e).elim
/-- any expression whose test is its value's truth (a name, a call, a subscript, a field ..: he by fun _ => rfl) -/
theorem pt_truth (ha : PE X a ta) (he : ∀ whole, isTrue a X.env whole = (do let v ← whole; standAt a.pos; holding [v] (truthy v))) :
    PT X a (fun σ H Q => ta σ H fun x H' => ∃ k, TruV X.K x H' k ∧ Q k H') := by
  intro pins s σ H Q I h
  exact isTrue_plain (thn (ha pins s σ H _ I h) fun v s1 ⟨x, H1, I1, r1, q1⟩ => tru_ok pins s1 σ H1 x v Q I1 r1 q1) (he _)

/-! ### strs and bytes -/
theorem pe_byt {x : List UInt8} {k : Nat} : PE X (.Constant (.bytes x) k pos) (fun _ H Q => Q (.byt x.toArray) H) := fun _ _ _ H _ I h => PySem.W.Constant_bytes ⟨.byt x.toArray, H, I.tok _, ⟨_, rfl⟩, h⟩
theorem op_add_str : OpR X (binaryOp .Add) (fun x y H Q => ∃ i j, x = .str i ∧ y = .str j ∧ i.length + j.length ≤ sizeLine ∧ Q (.str (i ++ j)) H) := by
  intro pins s σ H x y v u Q I rx ry h
  obtain ⟨i, j, rfl, rfl, hz, q⟩ := h
  obtain ⟨t, rfl⟩ := rx
  obtain ⟨t', rfl⟩ := ry
  exact add_str (fun t' tk => ⟨.str (i ++ j), H, I.tok _, ⟨_, rfl⟩, q⟩) hz
theorem iop_add_str : OpR X (inplaceOp .Add) (fun x y H Q => ∃ i j, x = .str i ∧ y = .str j ∧ i.length + j.length ≤ sizeLine ∧ Q (.str (i ++ j)) H) := by
  intro pins s σ H x y v u Q I rx ry h
  obtain ⟨i, j, rfl, rfl, hz, q⟩ := h
  obtain ⟨t, rfl⟩ := rx
  obtain ⟨t', rfl⟩ := ry
  exact iadd_str (fun t' tk => ⟨.str (i ++ j), H, I.tok _, ⟨_, rfl⟩, q⟩) hz
theorem op_add_byt : OpR X (binaryOp .Add) (fun x y H Q => ∃ i j, x = .byt i ∧ y = .byt j ∧ i.size + j.size ≤ 16777216 ∧ Q (.byt (i ++ j)) H) := by
  intro pins s σ H x y v u Q I rx ry h
  obtain ⟨i, j, rfl, rfl, hz, q⟩ := h
  obtain ⟨t, rfl⟩ := rx
  obtain ⟨t', rfl⟩ := ry
  exact PySem.W.KBy.add_bytes hz (fun t' tk => ⟨.byt (i ++ j), H, I.tok _, ⟨_, rfl⟩, q⟩)

def PlainIxT (b : Expr) : Prop := ∀ o i, subscripted b false o i = operate [o, i] (getItem o i)
/-- s[i], 0 ≤ i < len -/
theorem pe_item_str (ha : PE X a ta) (hb : PE X b tb) (hs : PlainIxT b) :
    PE X (.Subscript a b pos) (tOp (fun x y H Q => ∃ z i c, x = .str z ∧ y = .int i ∧ 0 ≤ i ∧ i < 2 ^ 63 ∧ i < z.length ∧ z.cps[i.toNat]? = some c ∧ Q (.str ⟨#[c]⟩) H) ta tb) := by
  intro pins s σ H Q I h
  refine Subscript_ (binT ha hb I h fun v u s2 x y H2 I2 rx ry q => ?_)
  obtain ⟨z, i, c, rfl, rfl, h0, h63, h1, hc, q⟩ := q
  obtain ⟨t, rfl⟩ := rx
  obtain ⟨t', rfl⟩ := ry
  have e : seqIndex? i z.length = some i.toNat := PySem.StrLaws.seqIndex_nonneg h0 h1
  exact tail_any (typeIs_str s2 z t) slot_str_getitem.lookup (getItem_str (c := c) (by
    have e1 : decide (i < -(2 ^ 63 : Int)) = false := decide_eq_false (by omega)
    have e2 : decide (i ≥ 2 ^ 63) = false := decide_eq_false (by omega)
    rw [e1, e2] <;> rfl) (by rw [e]; exact hc) ⟨.str ⟨#[c]⟩, H2, I2.tok _, ⟨_, rfl⟩, q⟩) (hs _ _)
/-- b[i], 0 ≤ i < len -/
theorem pe_item_byt (ha : PE X a ta) (hb : PE X b tb) (hs : PlainIxT b) :
    PE X (.Subscript a b pos) (tOp (fun x y H Q => ∃ (z : List UInt8) (i : Int), x = .byt z.toArray ∧ y = .int i ∧ z.length ≤ sizeLine ∧ 0 ≤ i ∧ i < z.length ∧ Q (.int ((z.getD i.toNat 0).toNat : Nat)) H) ta tb) := by
  intro pins s σ H Q I h
  refine Subscript_ (binT ha hb I h fun v u s2 x y H2 I2 rx ry q => ?_)
  obtain ⟨z, i, rfl, rfl, hz, h0, h1, q⟩ := q
  obtain ⟨t, rfl⟩ := rx
  obtain ⟨t', rfl⟩ := ry
  have hl : sizeLine = 16777216 := sizeLine_eq
  exact tail_any (PySem.W.typeIs_bytes s2 z.toArray t) PySem.W.FB.slot_bytes_getitem.lookup (PySem.W.getItem_bytes (by omega) h0 h1 ⟨.int ((z.getD i.toNat 0).toNat : Nat), H2, I2.tok _, ⟨_, rfl⟩, q⟩) (hs _ _)

/-! ### scalar builtins, by CallR -/
theorem vals1 {x : V} {us : List Value} (r : Vals [x] us) : ∃ u, us = [u] ∧ RelV x u := by
  cases r with
  | cons r1 r2 => cases r2; exact ⟨_, rfl, r1⟩
theorem vals2 {x y : V} {us : List Value} (r : Vals [x, y] us) : ∃ u w', us = [u, w'] ∧ RelV x u ∧ RelV y w' := by
  cases r with
  | cons r1 r2 =>
    cases r2 with
    | cons r3 r4 => cases r4; exact ⟨_, _, rfl, r1, r3⟩
theorem call_abs : CallR X (.builtin "abs") (fun xs H Q => ∃ i, xs = [.int i] ∧ Q (.int (if i < 0 then -i else i)) H) := by
  intro pins s σ H xs us Q I r h
  obtain ⟨i, rfl, q⟩ := h
  obtain ⟨u, rfl, t, rfl⟩ := vals1 r
  exact call_abs_int fun u tk => ⟨.int (if i < 0 then -i else i), H, I.tok _, ⟨_, rfl⟩, q⟩
theorem call_max2 (hc : X.calm = true) : CallR X (.builtin "max") (fun xs H Q => ∃ i j, xs = [.int i, .int j] ∧ Q (.int (if j > i then j else i)) H) := by
  intro pins s σ H xs us Q I r h
  obtain ⟨i, j, rfl, q⟩ := h
  obtain ⟨u, w', rfl, ⟨t, rfl⟩, ⟨t', rfl⟩⟩ := vals2 r
  refine max_two_ints (I.ok.hd hc) fun h' tk k => ⟨_, H, I.kept k, ?_, q⟩
  by_cases hj : j > i
  · rw [if_pos hj, if_pos hj]; exact ⟨_, rfl⟩
  · rw [if_neg hj, if_neg hj]; exact ⟨_, rfl⟩
theorem call_min2 (hc : X.calm = true) : CallR X (.builtin "min") (fun xs H Q => ∃ i j, xs = [.int i, .int j] ∧ Q (.int (if j < i then j else i)) H) := by
  intro pins s σ H xs us Q I r h
  obtain ⟨i, j, rfl, q⟩ := h
  obtain ⟨u, w', rfl, ⟨t, rfl⟩, ⟨t', rfl⟩⟩ := vals2 r
  refine min_two_ints (I.ok.hd hc) fun h' tk k => ⟨_, H, I.kept k, ?_, q⟩
  by_cases hj : j < i
  · rw [if_pos hj, if_pos hj]; exact ⟨_, rfl⟩
  · rw [if_neg hj, if_neg hj]; exact ⟨_, rfl⟩
theorem call_int1 : CallR X (.type "int") (fun xs H Q => (∃ i, xs = [.int i] ∧ Q (.int i) H) ∨ ∃ k, xs = [.bl k] ∧ Q (.int (if k then 1 else 0)) H) := by
  intro pins s σ H xs us Q I r h
  rcases h with ⟨i, rfl, q⟩ | ⟨k, rfl, q⟩
  · obtain ⟨u, rfl, t, rfl⟩ := vals1 r
    exact call_int_int ⟨.int i, H, I, ⟨_, rfl⟩, q⟩
  · obtain ⟨u, rfl, r1⟩ := vals1 r
    cases r1
    exact call_int_bool ⟨.int (if k then 1 else 0), H, I.tok _, ⟨_, rfl⟩, q⟩
theorem call_bool1 : CallR X (.type "bool") (fun xs H Q => (∃ i, xs = [.int i] ∧ Q (.bl (i != 0)) H) ∨ ∃ k, xs = [.bl k] ∧ Q (.bl k) H) := by
  intro pins s σ H xs us Q I r h
  rcases h with ⟨i, rfl, q⟩ | ⟨k, rfl, q⟩
  · obtain ⟨u, rfl, t, rfl⟩ := vals1 r
    exact call_bool_int ⟨.bl (i != 0), H, I, rfl, q⟩
  · obtain ⟨u, rfl, r1⟩ := vals1 r
    cases r1
    exact call_bool_bool ⟨.bl k, H, I, rfl, q⟩
theorem call_str_int : CallR X (.type "str") (fun xs H Q => ∃ i, xs = [.int i] ∧ i.natAbs.log2 < 1920 ∧ Q (.str (toString i)) H) := by
  intro pins s σ H xs us Q I r h
  obtain ⟨i, rfl, hz, q⟩ := h
  obtain ⟨u, rfl, t, rfl⟩ := vals1 r
  exact PySem.P.str_of_int hz ⟨.str _, H, I.tok _, ⟨_, rfl⟩, q⟩
theorem call_ord : CallR X (.builtin "ord") (fun xs H Q => ∃ x, xs = [.str x] ∧ x.length = 1 ∧ Q (.int (x.cps.getD 0 0 : Nat)) H) := by
  intro pins s σ H xs us Q I r h
  obtain ⟨x, rfl, hz, q⟩ := h
  obtain ⟨u, rfl, t, rfl⟩ := vals1 r
  exact ord_of_one hz ⟨.int _, H, I.tok _, ⟨_, rfl⟩, q⟩
theorem call_chr : CallR X (.builtin "chr") (fun xs H Q => ∃ i, xs = [.int i] ∧ 0 ≤ i ∧ i ≤ 1114111 ∧ Q (.str ⟨#[i.toNat]⟩) H) := by
  intro pins s σ H xs us Q I r h
  obtain ⟨i, rfl, h0, h1, q⟩ := h
  obtain ⟨u, rfl, t, rfl⟩ := vals1 r
  exact chr_of_range h0 h1 ⟨.str _, H, I.tok _, ⟨_, rfl⟩, q⟩
/-- len of a str, a bytes, a list, a tuple -/
def LenV (K : PySem.W.Frag) (x : V) (H : Hp) (n : Nat) : Prop :=
  match x with
  | .str y => y.length ≤ sizeLine ∧ n = y.length
  | .byt y => y.size ≤ sizeLine ∧ n = y.size
  | .ref p => (∃ xs, SqL K H p xs ∧ n = xs.length) ∨ ∃ xs, SqT K H p xs ∧ n = xs.length
  | _ => False
theorem call_len : CallR X (.builtin "len") (fun xs H Q => ∃ x n, xs = [x] ∧ LenV X.K x H n ∧ Q (.int n) H) := by
  intro pins s σ H xs us Q I r h
  obtain ⟨x, n, rfl, e, q⟩ := h
  obtain ⟨u, rfl, rx⟩ := vals1 r
  have hl := line63
  have hs : sizeLine = 16777216 := sizeLine_eq
  cases x with
  | str y =>
    obtain ⟨t, rfl⟩ := rx
    obtain ⟨hy, e'⟩ : y.length ≤ sizeLine ∧ n = y.length := e
    subst e'
    exact len_str (by omega) ⟨.int _, H, I.tok _, ⟨_, rfl⟩, q⟩
  | byt y =>
    obtain ⟨t, rfl⟩ := rx
    obtain ⟨hy, e'⟩ : y.size ≤ sizeLine ∧ n = y.size := e
    subst e'
    exact PySem.W.len_bytes (by omega) ⟨.int _, H, I.tok _, ⟨_, rfl⟩, q⟩
  | ref p =>
    cases rx
    have e' : (∃ xs, SqL X.K H p xs ∧ n = xs.length) ∨ ∃ xs, SqT X.K H p xs ∧ n = xs.length := e
    rcases e' with ⟨xs, hx, e'⟩ | ⟨xs, hx, e'⟩
    · subst e'
      obtain ⟨its, r', pl, hz⟩ := I.list hx
      have hlen := r'.length
      exact Calls.call_len_list pl.isList (by simp only [List.size_toArray]; omega) ⟨.int xs.length, H, I.tok _, ⟨_, by simp only [List.size_toArray]; rw [hlen]⟩, q⟩
    · subst e'
      obtain ⟨its, r', pl, hz⟩ := I.tuple hx
      have hlen := r'.length
      exact len_tuple pl (by simp only [List.size_toArray]; omega) ⟨.int xs.length, H, I.tok _, ⟨_, by simp only [List.size_toArray]; rw [hlen]⟩, q⟩
  | _ => exact (show False from e).elim
/-- divmod: a new tuple -/
theorem call_divmod : CallR X (.builtin "divmod") (fun xs H Q => ∃ i j, xs = [.int i, .int j] ∧ CDiv i j ∧ ∀ p, H p = none → Q (.ref p) (upd H p (.tup [.int (i / j), .int (i % j)]))) := by
  intro pins s σ H xs us Q I r h
  obtain ⟨i, j, rfl, ⟨h1, h2⟩, q⟩ := h
  obtain ⟨u, w', rfl, ⟨t, rfl⟩, ⟨t', rfl⟩⟩ := vals2 r
  refine divmod_int (by omega) ?_ (.inl (PyProof.noPylong_small (by omega)))
  rw [Int.fdiv_eq_ediv_of_nonneg i (by omega), Int.fmod_eq_emod_of_nonneg i (by omega)]
  have hn : H s.heap.objs.size = none := I.hok.fresh (Nat.le_refl _)
  refine ⟨.ref s.heap.objs.size, _, ?_, rfl, q _ hn⟩
  refine I.laid (fun b o e => Heap.get?_push_of_some _ e) (Nat.le_refl _) ⟨by simp only [List.length_cons, List.length_nil]; rw [sizeLine_eq]; decide, [.int (i / j) s.toks, .int (i % j) (s.toks + 1)], .cons ⟨_, rfl⟩ (.cons ⟨_, rfl⟩ .nil), ?_⟩
  exact ⟨_, Heap.get?_push_size s.heap rfl, rfl, 0, rfl⟩
end
end L2

namespace L2
open PySem PySem.Spec PyProof.Rows

/-! ### an instance, its attributes a map -/
structure ObjM (h : Heap) (x dx C : Addr) (mA : Str → Option Value) : Prop where
  obj : h.get? x = some (PySem.W.instObj C dx)
  ns : h.Ns1 dx mA
  ne : dx ≠ x

theorem lookIn_ns {h : Heap} {dx : Addr} {mA : Str → Option Value} (n : h.Ns1 dx mA) : ∃ od, h.get? dx = some od ∧ ∀ name, PySem.W.lookIn name od = some (mA name) := by
  obtain ⟨o, es, ep, ho, hd, hk, _, hm⟩ := n
  refine ⟨o, ho, fun name => ?_⟩
  have e := hm name
  unfold nsFind findBy at e
  rw [← Array.find?_toList] at e
  unfold PySem.W.lookIn
  rw [hd]
  dsimp only
  split
  · rename_i y q
    rw [q] at e
    exact congrArg some e
  · rename_i q
    rw [q] at e
    have a : es.toList.any (·.refKey) = false := by
      rw [List.any_eq_false]
      intro y hy
      obtain ⟨z, t, hkey⟩ := hk y (Array.mem_toList_iff.mp hy)
      simp [DictEntry.refKey, hkey]
    have a' : ¬ es.toList.any (·.refKey) = true := by rw [a]; exact Bool.false_ne_true
    rw [if_neg a']
    exact congrArg some e

theorem ObjM.look {h : Heap} {x dx C : Addr} {mA : Str → Option Value} (I : ObjM h x dx C mA) : ∃ od, PySem.W.InstAt h x (PySem.W.instObj C dx) C (some od) ∧ ∀ name, PySem.W.lookIn name od = some (mA name) :=
  let ⟨od, ho, hl⟩ := lookIn_ns I.ns
  ⟨od, ⟨I.obj, rfl, rfl, ho⟩, hl⟩

section
variable {prog : Program} {w : World} {A : Around} {E : Value → Shared → Prop} {s : Shared} {K : PySem.W.Frag} {x dx C f : Addr} {mA : Str → Option Value} {name : Str} {v : Value}

theorem get_map {expr : Bool} {Q : Value → Shared → Prop} (X : K.In s.heap) (I : ObjM s.heap x dx C mA) (hg : PySem.W.plainGet K C name = true) (hh : PySem.W.hasDictIn K C = true)
    (ha : PySem.W.findIn K (.ref C) name = some none) (hv : mA name = some v) (hv' : PySem.W.handedIn v = true) (h : Q v { s with toks := s.toks + 1 }) :
    wpAny (model prog w) A (getAttr (.ref x) name expr) Q E s := by
  obtain ⟨od, J, hl⟩ := I.look
  exact PySem.W.get_value X J (PySem.W.plainGet_of hg).1 (PySem.W.findObj_own hh ha rfl (by rw [hl, hv])) hv' h

theorem get_const {expr : Bool} {a : Value} {Q : Value → Shared → Prop} (X : K.In s.heap) (I : ObjM s.heap x dx C mA) (hg : PySem.W.plainGet K C name = true) (hh : PySem.W.hasDictIn K C = true)
    (ha : PySem.W.findIn K (.ref C) name = some (some a)) (hn : PySem.W.specialIn K a "__get__" = some none) (hc : PySem.W.copiedNames.contains name = false) (hv : mA name = none) (hv' : PySem.W.handedIn a = true)
    (h : Q a { s with toks := s.toks + 1 }) : wpAny (model prog w) A (getAttr (.ref x) name expr) Q E s := by
  obtain ⟨od, J, hl⟩ := I.look
  exact PySem.W.get_value X J (PySem.W.plainGet_of hg).1 (PySem.W.findObj_cls hh ha hn hv' hc (by rw [hl, hv])) hv' h

theorem get_meth {pl : Sem Bool} {Q : Value × List Value → Shared → Prop} (X : K.In s.heap) (I : ObjM s.heap x dx C mA) (hg : PySem.W.plainGet K C name = true)
    (hf : PySem.W.findIn K (.ref C) name = some (some (.ref f))) (ht : PySem.W.isFn K (.ref f) = true) (hv : mA name = none) (h : Q (.ref f, [.ref x]) s) :
    wpAny (model prog w) A (getMethod (.ref x) name pl) Q E s := by
  obtain ⟨od, J, hl⟩ := I.look
  exact PySem.W.method_fn X J (PySem.W.plainGet_of hg).1 (PySem.W.plainGet_of hg).2 hf (beq_iff_eq.mp ht) (by show (PySem.W.lookIn name od).map (·.isSome) = some false; rw [hl, hv]; rfl) h

theorem set_map {ns : List Str} {Q : Unit → Shared → Prop} (X : K.In s.heap) (I : ObjM s.heap x dx C mA)
    (hs : PySem.W.findIn K (.ref C) "__setattr__" = some (some (.builtin "object.__setattr__"))) (hp : PySem.W.plainOver K C = true) (ht : PySem.W.takerIn K C name = some none) (hh : PySem.W.hasDictIn K C = true)
    (hw : PySem.Within mA ns) (hsz : ns.length ≤ sizeLine)
    (h : ∀ h', ObjM h' x dx C (fun y => if y = name then some v else mA y) → Heap.SameBut dx s.heap h' → Q () { s with heap := h', toks := s.toks + 2 }) :
    wpAny (model prog w) A (setAttr (.ref x) name v) Q E s := by
  obtain ⟨od, J, hl⟩ := I.look
  refine PySem.W.set_plain X J hs (PySem.W.osa_open (s := { s with toks := s.toks + 1 }) (r := none) X J hp ht fun b => ?_)
  obtain ⟨cd, hc, hd'⟩ := PySem.W.any_some hh
  have hx : s.heap.get? x = some ⟨.ref C, some dx, .plain, #[]⟩ := I.obj
  refine wpAny_bind (wpAny_pure (wpAny_bind (wpAny_bind (wpAny_loadPart hx (wpAny_bind (PySem.W.Looks.here (s := { s with toks := s.toks + 1 }) (PySem.W.looks_clsIn X hc) ?_))))))
  rw [hd']
  refine wpAny_pure (a := some dx) (wpAny_bind (wpAny_pure (wpAny_bind ?_)))
  refine wpAny_nsSet1 (s := { s with toks := s.toks + 1 }) I.ns fun h' hn2 hs2 => ?_
  obtain ⟨oD, esD, epD, hoD, hdD, hcD⟩ := hn2.count (PySem.Within.cons name v hw)
  refine wpAny_bind (wpAny_lookBehind hoD (by rw [hdD]; exact pastItsLine_dict (Nat.le_trans hcD (by rw [List.length_cons]; omega))) ?_)
  exact wpAny_pure (h _ ⟨(hs2.2 _ (Ne.symm I.ne)).trans I.obj, hn2, I.ne⟩ hs2)

/-- C(..): the dict at the heap's end, the instance behind it; then its __init__ -/
theorem make_map {R : Result → Shared → Prop} {vs : List Value} {kw : List (Str × Value)} (X : K.In s.heap) (hm : PySem.W.makesIn K C = true)
    (hi : PySem.W.findIn K (.ref C) "__init__" = some (some (.ref f))) (hf : PySem.W.typeIn K (.ref f) = some (.type "function"))
    (h : codeAny (model prog w) (A.under (.builtin "type.__call__" ⟨.ref C :: vs, kw⟩)) (.call (.ref f) ⟨.ref (s.heap.objs.size + 1) :: vs, kw⟩) (PySem.W.InitBack (s.heap.objs.size + 1) R)
      { s with heap := (s.heap.push PySem.W.emptyDict).push (PySem.W.instObj C s.heap.objs.size) }) :
    codeAny (model prog w) A (.call (.ref C) ⟨vs, kw⟩) R s := by
  obtain ⟨hh, g, d, t, os⟩ := s
  exact PySem.W.make_core (PySem.W.makes_of X hm) (PySem.W.looks_findIn X hi) (fun self => PySem.W.bind_fn X self hf) (.inl rfl) h
/-- C() where there is no __init__ but object's -/
theorem make_map0 {R : Result → Shared → Prop} (X : K.In s.heap) (hm : PySem.W.makesIn K C = true)
    (hi : PySem.W.findIn K (.ref C) "__init__" = some (some (.builtin "object.__init__")))
    (hb : ∀ self, PySem.W.Looks (model prog w) s.heap (bindSpecial (.builtin "object.__init__") self) (.builtin "object.__init__", [self]))
    (h : codeAny (model prog w) (A.under (.builtin "type.__call__" ⟨[.ref C], []⟩)) (.call (.builtin "object.__init__") ⟨[.ref (s.heap.objs.size + 1)], []⟩) (PySem.W.InitBack (s.heap.objs.size + 1) R)
      { s with heap := (s.heap.push PySem.W.emptyDict).push (PySem.W.instObj C s.heap.objs.size) }) :
    codeAny (model prog w) A (.call (.ref C) ⟨[], []⟩) R s := by
  obtain ⟨hh, g, d, t, os⟩ := s
  exact PySem.W.make_core (PySem.W.makes_of X hm) (PySem.W.looks_findIn X hi) hb (.inr ⟨rfl, rfl⟩) h
end

/-! ### the attributes as a list of pairs -/
def putF (f : Str) (v : V) : List (Str × V) → List (Str × V)
  | [] => [(f, v)]
  | (g, x) :: r => if g = f then (g, v) :: r else (g, x) :: putF f v r
theorem lookup_putF (f g : Str) (v : V) : ∀ fs : List (Str × V), (putF f v fs).lookup g = if g = f then some v else fs.lookup g
  | [] => by
    show List.lookup g [(f, v)] = _
    by_cases h : g = f
    · have hb : (g == f) = true := beq_iff_eq.mpr h
      simp only [List.lookup, hb, if_pos h]
    · have hb : (g == f) = false := beq_eq_false_iff_ne.mpr h
      simp only [List.lookup, hb, if_neg h]
  | (k, x) :: r => by
    have ih := lookup_putF f g v r
    rw [show putF f v ((k, x) :: r) = (if k = f then (k, v) :: r else (k, x) :: putF f v r) from rfl]
    by_cases hk : k = f
    · rw [if_pos hk]
      by_cases h : g = k
      · have hb : (g == k) = true := beq_iff_eq.mpr h
        simp only [List.lookup, hb, if_pos (h.trans hk)]
      · have hb : (g == k) = false := beq_eq_false_iff_ne.mpr h
        simp only [List.lookup, hb, if_neg (fun e : g = f => h (e.trans hk.symm))]
    · rw [if_neg hk]
      by_cases h : g = k
      · have hb : (g == k) = true := beq_iff_eq.mpr h
        simp only [List.lookup, hb, if_neg (fun e : g = f => hk (h.symm.trans e))]
      · have hb : (g == k) = false := beq_eq_false_iff_ne.mpr h
        simp only [List.lookup, hb]
        exact ih
theorem keys_putF (f : Str) (v : V) : ∀ fs : List (Str × V), f ∈ (putF f v fs).map (·.1) ∧ ∀ g, g ∈ fs.map (·.1) → g ∈ (putF f v fs).map (·.1)
  | [] => ⟨by simp [putF], fun g h => by simp at h⟩
  | (k, x) :: r => by
    obtain ⟨i1, i2⟩ := keys_putF f v r
    rw [show putF f v ((k, x) :: r) = (if k = f then (k, v) :: r else (k, x) :: putF f v r) from rfl]
    by_cases hk : k = f
    · rw [if_pos hk]
      subst hk
      exact ⟨by simp, fun g h => by simpa using h⟩
    · rw [if_neg hk]
      refine ⟨?_, fun g h => ?_⟩
      · rw [List.map_cons]
        exact List.mem_cons_of_mem _ i1
      · rw [List.map_cons] at h ⊢
        rcases List.mem_cons.mp h with e | e
        · exact List.mem_cons.mpr (.inl e)
        · exact List.mem_cons_of_mem _ (i2 g e)
theorem length_putF (f : Str) (v : V) : ∀ fs : List (Str × V), (putF f v fs).length ≤ fs.length + 1
  | [] => by simp [putF]
  | (k, x) :: r => by
    have ih := length_putF f v r
    rw [show putF f v ((k, x) :: r) = (if k = f then (k, v) :: r else (k, x) :: putF f v r) from rfl]
    by_cases hk : k = f
    · rw [if_pos hk, List.length_cons, List.length_cons]; omega
    · rw [if_neg hk, List.length_cons, List.length_cons]; omega

theorem RelO.some_of {v : V} {o : Option Value} (r : RelO (some v) o) : ∃ u, o = some u ∧ RelV v u := by
  cases o with
  | none => exact (show False from r).elim
  | some u => exact ⟨u, rfl, r⟩
theorem RelO.none_of {o : Option Value} (r : RelO none o) : o = none := by
  cases o with
  | none => rfl
  | some u => exact (show False from r).elim
theorem handed_of {v : V} {u : Value} (r : RelV v u) : PySem.W.handedIn u = true := by
  cases v with
  | non => cases (show u = Value.none from r); rfl
  | bl b => cases (show u = Value.bool b from r); rfl
  | int i => obtain ⟨t, e⟩ := (show ∃ t, u = Value.int i t from r); cases e; rfl
  | str x => obtain ⟨t, e⟩ := (show ∃ t, u = Value.str x t from r); cases e; rfl
  | byt b => obtain ⟨t, e⟩ := (show ∃ t, u = Value.bytes b t from r); cases e; rfl
  | flt b => obtain ⟨t, e⟩ := (show ∃ t, u = Value.float b t from r); cases e; rfl
  | ref a => cases (show u = Value.ref a from r); rfl
  | ty n => cases (show u = Value.type n from r); rfl

section
variable {P : Program} {w : World} {H H' : Hp} {h h' : Heap} {a C dx : Addr} {fs fs' : List (Str × V)}
theorem ins_get (hok : HOk P w H h) (e : H a = some (.ins C dx fs)) : ∃ mA, ObjM h a dx C mA ∧ (∀ f, RelO (fs.lookup f) (mA f)) ∧ PySem.Within mA (fs.map (·.1)) ∧ fs.length ≤ 1000 ∧ H dx = some (.own a) := by
  obtain ⟨d, z, ne, ob, mA, n, r, q⟩ := (show ObjOk P w H h a (.ins C dx fs) from hok a _ e)
  exact ⟨mA, ⟨ob, n, ne⟩, r, q, z, d⟩
end

/-! ### what of the text a class must have -/
structure Cls (K : PySem.W.Frag) (C : Addr) : Prop where
  pg : PySem.W.plainGet K C Str.empty = true
  hd : PySem.W.hasDictIn K C = true
  po : PySem.W.plainOver K C = true
  sa : PySem.W.findIn K (.ref C) "__setattr__" = some (some (.builtin "object.__setattr__"))
theorem Cls.get {K : PySem.W.Frag} {C : Addr} (c : Cls K C) (f : Str) : PySem.W.plainGet K C f = true := c.pg
/-- no class of it has the name -/
def NoAttr (K : PySem.W.Frag) (C : Addr) (f : Str) : Prop := PySem.W.findIn K (.ref C) f = some none
theorem NoAttr.taker {K : PySem.W.Frag} {C : Addr} {f : Str} (n : NoAttr K C f) : PySem.W.takerIn K C f = some none := by
  unfold PySem.W.takerIn
  rw [show PySem.W.findIn K (.ref C) f = some none from n]
  rfl
/-- a constant of the class -/
structure Con (K : PySem.W.Frag) (C : Addr) (f : Str) (v : V) (u : Value) : Prop where
  at_ : PySem.W.findIn K (.ref C) f = some (some u)
  rel : RelV v u
  get : PySem.W.specialIn K u "__get__" = some none
  cp : PySem.W.copiedNames.contains f = false
/-- a method: a plain def of the class or of one above it -/
structure Meth (K : PySem.W.Frag) (C : Addr) (m : Str) (f : Addr) : Prop where
  at_ : PySem.W.findIn K (.ref C) m = some (some (.ref f))
  fn : PySem.W.isFn K (.ref f) = true
  kp : PySem.W.keepIn K (.ref f) = true

section
variable {X : Cx} {pins : List (Addr × Obj)} {σ : St} {H : Hp} {s : Shared} {a C dx : Addr} {fs : List (Str × V)} {f : Str} {v : V} {A : Around} {E : Value → Shared → Prop}

theorem getattr_ok {b : Bool} {Q : Value → Shared → Prop} (I : Inv X pins σ H s) (e : H a = some (.ins C dx fs)) (c : Cls X.K C) (n : NoAttr X.K C f) (l : fs.lookup f = some v)
    (h : ∀ u s', Inv X pins σ H s' → RelV v u → Q u s') : wpAny (model X.prog X.w) A (getAttr (.ref a) f b) Q E s := by
  obtain ⟨mA, O, r, _, _, _⟩ := ins_get I.hok e
  obtain ⟨u, hu, ru⟩ := RelO.some_of (v := v) (o := mA f) (by rw [← l]; exact r f)
  exact get_map I.kIn O (c.get f) c.hd n hu (handed_of ru) (h u _ (I.tok _) ru)

theorem getcon_ok {b : Bool} {u : Value} {Q : Value → Shared → Prop} (I : Inv X pins σ H s) (e : H a = some (.ins C dx fs)) (c : Cls X.K C) (k : Con X.K C f v u) (l : fs.lookup f = none)
    (h : ∀ s', Inv X pins σ H s' → Q u s') : wpAny (model X.prog X.w) A (getAttr (.ref a) f b) Q E s := by
  obtain ⟨mA, O, r, _, _, _⟩ := ins_get I.hok e
  have hn : mA f = none := RelO.none_of (by rw [← l]; exact r f)
  exact get_const I.kIn O (c.get f) c.hd k.at_ k.get k.cp hn (handed_of k.rel) (h _ (I.tok _))

theorem getmeth_ok {m : Str} {g : Addr} {pl : Sem Bool} {Q : Value × List Value → Shared → Prop} (I : Inv X pins σ H s) (e : H a = some (.ins C dx fs)) (c : Cls X.K C) (k : Meth X.K C m g) (l : fs.lookup m = none)
    (h : Q (.ref g, [.ref a]) s) : wpAny (model X.prog X.w) A (getMethod (.ref a) m pl) Q E s := by
  obtain ⟨mA, O, r, _, _, _⟩ := ins_get I.hok e
  have hn : mA m = none := RelO.none_of (by rw [← l]; exact r m)
  exact get_meth I.kIn O (c.get m) k.at_ k.fn hn h

theorem setattr_ok {y : V} {u : Value} {Q : Unit → Shared → Prop} (I : Inv X pins σ H s) (e : H a = some (.ins C dx fs)) (c : Cls X.K C) (n : NoAttr X.K C f) (hl : fs.length < 1000) (ry : RelV y u)
    (h : ∀ s', Inv X pins σ (upd H a (.ins C dx (putF f y fs))) s' → Q () s') : wpAny (model X.prog X.w) A (setAttr (.ref a) f u) Q E s := by
  obtain ⟨mA, O, r, wi, _, ho⟩ := ins_get I.hok e
  have hz : (fs.map (·.1)).length ≤ sizeLine := by rw [List.length_map, sizeLine_eq]; omega
  refine set_map I.kIn O c.sa c.po n.taker c.hd wi hz fun h' O' sb => h _ ?_
  have hd : ∃ o, h'.get? dx = some o := let ⟨o, _, _, e', _⟩ := O'.ns; ⟨o, e'⟩
  refine I.write (x := a) (e := dx) (by rw [e]; exact True.intro) (.inr ho) (fun b q hb z => (sb.2 b hb).trans z) hd ?_
  refine ⟨by rw [upd_ne O.ne]; exact ho, ?_, O.ne, O'.obj, _, O'.ns, fun g => ?_, fun g hg => ?_⟩
  · have := length_putF f y fs; omega
  · show RelO ((putF f y fs).lookup g) (if g = f then some u else mA g)
    rw [lookup_putF]
    by_cases q : g = f
    · rw [if_pos q, if_pos q]; exact ry
    · rw [if_neg q, if_neg q]; exact r g
  · by_cases q : g = f
    · rw [q]; exact (keys_putF f y fs).1
    · refine (keys_putF f y fs).2 g (wi g fun z => hg ?_)
      show (if g = f then some u else mA g) = none
      rw [if_neg q]; exact z

/-- a new instance, tracked, without attributes -/
theorem Inv.made (I : Inv X pins σ H s) : Inv X pins σ (upd (upd H s.heap.objs.size (.own (s.heap.objs.size + 1))) (s.heap.objs.size + 1) (.ins C s.heap.objs.size []))
    { s with heap := (s.heap.push PySem.W.emptyDict).push (PySem.W.instObj C s.heap.objs.size) } := by
  have e1 : (s.heap.push PySem.W.emptyDict).get? s.heap.objs.size = some PySem.W.emptyDict := Heap.get?_push_size s.heap rfl
  have e2 : ((s.heap.push PySem.W.emptyDict).push (PySem.W.instObj C s.heap.objs.size)).get? (s.heap.objs.size + 1) = some (PySem.W.instObj C s.heap.objs.size) := by
    have := Heap.get?_push_size (s.heap.push PySem.W.emptyDict) (o := PySem.W.instObj C s.heap.objs.size) rfl
    rwa [Heap.size_push] at this
  have e3 : (s.heap.push PySem.W.emptyDict).Ns s.heap.objs.size (fun _ => none) := ⟨PySem.W.emptyDict, #[], _, e1, rfl, (fun e he => absurd he (by simp)), fun _ => rfl⟩
  have I1 := I.laid (a := s.heap.objs.size) (o := .own (s.heap.objs.size + 1)) (h' := s.heap.push PySem.W.emptyDict) (t' := s.toks) (fun b u q => Heap.get?_push_of_some _ q) (Nat.le_refl _) ⟨_, e1⟩
  refine I1.laid (a := s.heap.objs.size + 1) (o := .ins C s.heap.objs.size []) (t' := s.toks) (fun b u q => Heap.get?_push_of_some _ q) (Nat.le_of_eq (Heap.size_push _ _)) ?_
  have ne : s.heap.objs.size ≠ s.heap.objs.size + 1 := Nat.ne_of_lt (Nat.lt_succ_self _)
  refine ⟨by rw [upd_ne ne, upd_same], Nat.zero_le _, ne, e2, fun _ => none, (Heap.Ns1.of_empty e3).at fun o q => Heap.get?_push_of_some _ q, fun _ => True.intro, fun y hy => absurd rfl hy⟩

/-- e.f where nothing but the object is asked: through attributeBase (super) and the last hold -/
theorem attr_of {prog : Program} {w : World} {env : Env} {e : Expr} {f : Str} {pos : Pos} {s : Shared} {Q : Value → Shared → Prop} (hb : attributeBase e f env (eval e env) = eval e env)
    (h : wpAny (model prog w) A (eval e env) (fun o s₁ => wpAny (model prog w) A (getAttr o f true) Q E s₁) E s) : wpAny (model prog w) A (eval (.Attribute e f pos) env) Q E s :=
  Attribute_any_ h (by rw [arm_eval_Attribute, hb])
end

/-! ### readings and rules -/
/-- e.f, an attribute of the instance -/
def tFld (K : PySem.W.Frag) (ta : TE) (f : Str) : TE := fun σ H Q => ta σ H fun x H1 => ∃ a C dx fs v, x = .ref a ∧ H1 a = some (.ins C dx fs) ∧ Cls K C ∧ NoAttr K C f ∧ fs.lookup f = some v ∧ Q v H1
/-- e.f, a constant of the class -/
def tCon (K : PySem.W.Frag) (ta : TE) (f : Str) : TE := fun σ H Q => ta σ H fun x H1 => ∃ a C dx fs v u, x = .ref a ∧ H1 a = some (.ins C dx fs) ∧ Cls K C ∧ Con K C f v u ∧ fs.lookup f = none ∧ Q v H1
/-- e.f = value -/
def sFld (K : PySem.W.Frag) (ta tv : TE) (f : Str) : TS := fun D σ H => tv σ H fun y H1 => ta σ H1 fun x H2 => ∃ a C dx fs, x = .ref a ∧ H2 a = some (.ins C dx fs) ∧ Cls K C ∧ NoAttr K C f ∧ fs.length < 1000 ∧
  D.nx σ (upd H2 a (.ins C dx (putF f y fs)))
/-- an augmented operator on two values -/
def InOp (X : Cx) (op : Operator) (rd : V → V → Hp → VK → Prop) : Prop :=
  ∀ (pins : List (Addr × Obj)) (s : Shared) (σ : St) (H : Hp) (x y : V) (u v : Value) (Q : VK), Inv X pins σ H s → RelV x u → RelV y v → rd x y H Q → wpAny (model X.prog X.w) X.A (inplaceOp op u v) (EP X pins σ Q) X.xe s
/-- e.f op= value -/
def sFldAug (K : PySem.W.Frag) (ta tv : TE) (rd : V → V → Hp → VK → Prop) (f : Str) : TS := fun D σ H => ta σ H fun x H1 => ∃ a C dx fs v, x = .ref a ∧ H1 a = some (.ins C dx fs) ∧ Cls K C ∧ NoAttr K C f ∧ fs.lookup f = some v ∧
  tv σ H1 fun y H2 => rd v y H2 fun z H3 => ∃ dx' fs', H3 a = some (.ins C dx' fs') ∧ fs'.length < 1000 ∧ D.nx σ (upd H3 a (.ins C dx' (putF f z fs')))

section
variable {X : Cx} {o e value : Expr} {f : Str} {pos pos' tpos : Pos} {ta tv : TE}
theorem pe_fld (he : PE X e ta) (hb : attributeBase e f X.env (eval e X.env) = eval e X.env) : PE X (.Attribute e f pos) (tFld X.K ta f) := by
  intro pins s σ H Q I h
  refine attr_of hb (thn (he pins s σ H _ I h) fun u s1 ⟨x, H1, I1, rx, a, C, dx, fs, v, ex, ea, c, n, l, q⟩ => ?_)
  subst ex
  obtain rfl : u = Value.ref a := rx
  exact getattr_ok I1 ea c n l fun u' s2 I2 ru => ⟨v, H1, I2, ru, q⟩
theorem pe_con (he : PE X e ta) (hb : attributeBase e f X.env (eval e X.env) = eval e X.env) : PE X (.Attribute e f pos) (tCon X.K ta f) := by
  intro pins s σ H Q I h
  refine attr_of hb (thn (he pins s σ H _ I h) fun u s1 ⟨x, H1, I1, rx, a, C, dx, fs, v, u0, ex, ea, c, k, l, q⟩ => ?_)
  subst ex
  obtain rfl : u = Value.ref a := rx
  exact getcon_ok I1 ea c k l fun s2 I2 => ⟨v, H1, I2, k.rel, q⟩
theorem ps_fld (ha : PE X o ta) (hv : PE X value tv) (hs : swapsWith value (some (.Attribute o f pos')) pos.line X.env = pure false) : PS X (.Assign [.Attribute o f pos'] value pos) (sFld X.K ta tv f) := by
  intro pins s σ H D I h
  refine plainObj_wpAny_Assign_Attribute (thn (hv pins s σ H _ I h) fun u s1 ⟨y, H1, I1, ry, q⟩ => thn (ha pins s1 σ H1 _ I1 q) fun ov s2 ⟨x, H2, I2, rx, a, C, dx, fs, ex, ea, c, n, l, q2⟩ => ?_) hs
  subst ex
  obtain rfl : ov = Value.ref a := rx
  exact setattr_ok I2 ea c n l ry fun s3 I3 => ⟨σ, _, I3, q2⟩
theorem ps_fldaug {op : Operator} {rd : V → V → Hp → VK → Prop} (ha : PE X o ta) (hv : PE X value tv) (hop : InOp X op rd) : PS X (.AugAssign (.Attribute o f tpos) op value pos) (sFldAug X.K ta tv rd f) := by
  intro pins s σ H D I h
  refine wpAny_AugAssign_AttributeAny (thn (ha pins s σ H _ I h) fun ov s1 ⟨x, H1, I1, rx, a, C, dx, fs, v, ex, ea, c, n, l, q⟩ => ?_)
  subst ex
  obtain rfl : ov = Value.ref a := rx
  refine getattr_ok I1 ea c n l fun u s2 I2 ru => thn (hv pins s2 σ H1 _ I2 q) fun w3 s3 ⟨y, H2, I3, ry, q3⟩ => thn (hop pins s3 σ H2 v y u w3 _ I3 ru ry q3) fun w4 s4 ⟨z, H3, I4, rz, dx', fs', ea', l', q4⟩ => ?_
  exact setattr_ok I4 ea' c n l' rz fun s5 I5 => ⟨σ, _, I5, q4⟩
def rAdd : V → V → Hp → VK → Prop := fun x y H Q => ∃ i j, x = .int i ∧ y = .int j ∧ Q (.int (i + j)) H
def rSub : V → V → Hp → VK → Prop := fun x y H Q => ∃ i j, x = .int i ∧ y = .int j ∧ Q (.int (i - j)) H
theorem in_add : InOp X .Add rAdd := by
  rintro pins s σ H x y u v Q I rx ry ⟨i, j, rfl, rfl, q⟩
  obtain ⟨t, rfl⟩ := (show ∃ t, u = Value.int i t from rx)
  obtain ⟨t', rfl⟩ := (show ∃ t', v = Value.int j t' from ry)
  exact PyProof.Rows.iadd_int ⟨.int (i + j), H, I.tok _, ⟨_, rfl⟩, q⟩
theorem in_sub : InOp X .Sub rSub := by
  rintro pins s σ H x y u v Q I rx ry ⟨i, j, rfl, rfl, q⟩
  obtain ⟨t, rfl⟩ := (show ∃ t, u = Value.int i t from rx)
  obtain ⟨t', rfl⟩ := (show ∃ t', v = Value.int j t' from ry)
  exact PyProof.Rows.isub_int ⟨.int (i - j), H, I.tok _, ⟨_, rfl⟩, q⟩

/-- what is between an instance and its method: the tree of a method call -/
theorem methcall_of {pl : Sem Bool} {m : Str} {apos : Pos} {args : List Expr} {pins : List (Addr × Obj)} {s : Shared} {σ : St} {H : Hp} {Q : Value → Shared → Prop} {te : TE} (he : PE X e te) (I : Inv X pins σ H s)
    (h : te σ H fun x H1 => ∃ a C dx fs g, x = .ref a ∧ H1 a = some (.ins C dx fs) ∧ Cls X.K C ∧ Meth X.K C m g ∧ fs.lookup m = none ∧
      ∀ s1, Inv X pins σ H1 s1 → wpAny (model X.prog X.w) X.A (callWith pos (.ref g) [.ref a] (backTo pos (starEach args X.env)) (backToKw pos (keywordEach [] X.env))) Q X.xe s1)
    (ht : eval (.Call (.Attribute e m apos) args [] pos) X.env = (do
      let ov ← eval e X.env
      standAt apos.atName
      let (f, first) ← holding [ov] (getMethod ov m pl)
      callWith pos f first (backTo pos (starEach args X.env)) (backToKw pos (keywordEach [] X.env)))) :
    wpAny (model X.prog X.w) X.A (eval (.Call (.Attribute e m apos) args [] pos) X.env) Q X.xe s := by
  refine PySem.W.methodCall_KW (pl := pl) (thn (he pins s σ H _ I h) fun u s1 ⟨x, H1, I1, rx, a, C, dx, fs, g, ex, ea, c, k, l, q⟩ => ?_) ht
  subst ex
  obtain rfl : u = Value.ref a := rx
  exact getmeth_ok I1 ea c k l (q s1 I1)
end

/-! ### isinstance -/
section
variable {X : Cx} {pins : List (Addr × Obj)} {σ : St} {H : Hp} {s : Shared} {A : Around} {E : Value → Shared → Prop} {Q : Value → Shared → Prop} {c : Value} {b : Bool}
/-- the type of a value, as the fragment's deciders take it; for an instance its class -/
inductive TyOf (K : PySem.W.Frag) (H : Hp) : V → Value → Prop where
  | non : TyOf K H .non (.type "NoneType")
  | bl (x : Bool) : TyOf K H (.bl x) (.type "bool")
  | int (i : Int) : TyOf K H (.int i) (.type "int")
  | str (x : Str) : TyOf K H (.str x) (.type "str")
  | flt (x : UInt64) : TyOf K H (.flt x) (.type "float")
  | lst {a : Addr} {xs : List V} (e : H a = some (.lst xs)) : TyOf K H (.ref a) (.type "list")
  | frz {a : Addr} {o : Obj} {xs : List V} (e : H a = some (.frz o (.lst xs))) : TyOf K H (.ref a) (.type "list")
  | tup {a : Addr} {xs : List V} (e : H a = some (.tup xs)) : TyOf K H (.ref a) (.type "tuple")
  | dK {a : Addr} {kvs : List (Key × V)} (e : H a = some (.dK kvs)) : TyOf K H (.ref a) (.type "dict")
  | dT {a : Addr} {kvs : List (List Key × V)} (e : H a = some (.dT kvs)) : TyOf K H (.ref a) (.type "dict")
  | ins {a C dx : Addr} {fs : List (Str × V)} (e : H a = some (.ins C dx fs)) (cl : Cls K C) (ha : PySem.W.findIn K (.ref C) "__class__" = some (some (.builtin "object.__class__")))
      (hn : PySem.W.specialIn K (.builtin "object.__class__") "__get__" = some (some (.builtin "getset_descriptor.__get__"))) (htk : PySem.W.takesIn K (.builtin "object.__class__") = some true)
      (hm : PySem.W.mroIn K C (.type "object") = some true) : TyOf K H (.ref a) (.ref C)
/-- isinstance(x, c) for one class c, a built-in or an own one: kitOne's answer -/
theorem isinst_ok {x : V} {u t : Value} (I : Inv X pins σ H s) (rx : RelV x u) (ty : TyOf X.K H x t) (e : PySem.W.kitOne X.K t c = some b) (h : ∀ tk, Q (.bool b) { s with toks := tk }) :
    wpAny (model X.prog X.w) A (call (.builtin "isinstance") [u, c]) Q E s := by
  cases ty with
  | non => cases (show u = Value.none from rx); exact PySem.W.kia_one PySem.W.kitx_none I.kIn True.intro e (fun z => nomatch z) h
  | bl y => cases (show u = Value.bool y from rx); exact PySem.W.kia_one PySem.W.kitx_bool I.kIn True.intro e (fun z => nomatch z) h
  | int i => obtain ⟨t, q⟩ := (show ∃ t, u = Value.int i t from rx); cases q; exact PySem.W.kia_one PySem.W.kitx_int I.kIn True.intro e (fun z => nomatch z) h
  | str y => obtain ⟨t, q⟩ := (show ∃ t, u = Value.str y t from rx); cases q; exact PySem.W.kia_one PySem.W.kitx_str I.kIn True.intro e (fun z => nomatch z) h
  | flt y => obtain ⟨t, q⟩ := (show ∃ t, u = Value.float y t from rx); cases q; exact PySem.W.kia_one PySem.W.kitx_float I.kIn True.intro e (fun z => nomatch z) h
  | @lst a xs ea =>
    cases (show u = Value.ref a from rx)
    obtain ⟨_, _, n, _, h1⟩ := (show ObjOk X.prog X.w H s.heap a (.lst xs) from I.hok a _ ea)
    exact PySem.W.kia_one PySem.W.kitx_list I.kIn ⟨_, h1, rfl⟩ e (fun z => nomatch z) h
  | @frz a ob xs ea =>
    cases (show u = Value.ref a from rx)
    obtain ⟨_, _, _, n, _, h1⟩ := (show ObjOk X.prog X.w H s.heap a (.frz ob (.lst xs)) from I.hok a _ ea)
    exact PySem.W.kia_one PySem.W.kitx_list I.kIn ⟨_, h1, rfl⟩ e (fun z => nomatch z) h
  | @tup a xs ea =>
    cases (show u = Value.ref a from rx)
    obtain ⟨_, _, _, p⟩ := (show ObjOk X.prog X.w H s.heap a (.tup xs) from I.hok a _ ea)
    obtain ⟨o, h1, h2, _⟩ := p
    exact PySem.W.kia_one PySem.W.kitx_tuple I.kIn ⟨o, h1, h2⟩ e (fun z => nomatch z) h
  | @dK a kvs ea =>
    cases (show u = Value.ref a from rx)
    obtain ⟨_, _, vs, _, p⟩ := (show ObjOk X.prog X.w H s.heap a (.dK kvs) from I.hok a _ ea)
    obtain ⟨o, es, ep, h1, h2, _⟩ := p
    exact PySem.W.kia_one PySem.W.kitx_dict I.kIn ⟨o, h1, h2.1⟩ e (fun z => nomatch z) h
  | @dT a kvs ea =>
    cases (show u = Value.ref a from rx)
    obtain ⟨_, _, xs, _, o, es, ep, h1, h2, _⟩ := (show ObjOk X.prog X.w H s.heap a (.dT kvs) from I.hok a _ ea)
    exact PySem.W.kia_one PySem.W.kitx_dict I.kIn ⟨o, h1, h2.1⟩ e (fun z => nomatch z) h
  | @ins a C dx fs ea cl ha hn htk hm =>
    cases (show u = Value.ref a from rx)
    obtain ⟨mA, O, _⟩ := ins_get I.hok ea
    obtain ⟨od, J, _⟩ := O.look
    exact PySem.W.kia_one (PySem.W.kitx_own (cl.get _) cl.hd ha hn htk hm) I.kIn J e (fun z => nomatch z) h
end
end L2

namespace L2
open PySem PySem.Spec PyProof.Rows

/-! ### room -/
structure Room (k : Nat) (A : Around) : Prop where
  hd : A.handled = none
  dp : A.depth + 3 * k + 5 < recursionLimit
  un : A.units + 16 * k + 200 < cLine
theorem Room.mono {j k : Nat} {A : Around} (r : Room k A) (h : j ≤ k) : Room j A := ⟨r.hd, by have := r.dp; omega, by have := r.un; omega⟩
theorem Room.deeper {k : Nat} {A : Around} (r : Room (k + 1) A) (env : Env) : Room k (A.deeper env) :=
  ⟨r.hd, by have := r.dp; show A.depth + 1 + 3 * k + 5 < _; omega, by have := r.un; show A.units + 3 + 16 * k + 200 < _; omega⟩
theorem Room.in1 {k : Nat} {A : Around} (r : Room (k + 1) A) : Room k A.in1 :=
  ⟨r.hd, by have := r.dp; show A.depth + 3 * k + 5 < _; omega, by have := r.un; show A.units + 1 + 16 * k + 200 < _; omega⟩
theorem make_depth {A : Around} {C : Addr} {us : List Value} {kw : List (Str × Value)} : (A.under (.builtin "type.__call__" ⟨.ref C :: us, kw⟩)).depth = A.depth + 1 := by
  first | rfl | simp [Around.under, Code.weight, Code.isCreation, Code.isGuard, Code.isCaller, Code.frames, Code.isFrame, guardIds]
theorem make_units {A : Around} {C : Addr} {us : List Value} {kw : List (Str × Value)} : (A.under (.builtin "type.__call__" ⟨.ref C :: us, kw⟩)).units = A.units + 1 := by
  first | rfl | simp [Around.under, Code.cUnits, Code.frames, Code.isFrame]
theorem Room.make {k : Nat} {A : Around} (r : Room (k + 1) A) (C : Addr) (us : List Value) (kw : List (Str × Value)) : Room k (A.under (.builtin "type.__call__" ⟨.ref C :: us, kw⟩)) :=
  ⟨r.hd, by have := r.dp; rw [make_depth]; omega, by have := r.un; rw [make_units]; omega⟩
theorem Room.depth {k : Nat} {A : Around} (r : Room k A) : A.depth < recursionLimit := by have := r.dp; omega
theorem Room.units {k : Nat} {A : Around} (r : Room k A) : A.units + 64 < cLine := by have := r.un; omega
theorem Room.units0 {k : Nat} {A : Around} (r : Room k A) : A.units < cLine := by have := r.un; omega

/-! ### argument lists and displays -/
def tNil : TA := fun _ H Q => Q [] H
def tCons (ta : TE) (tr : TA) : TA := fun σ H Q => ta σ H fun x H1 => tr σ H1 fun xs H2 => Q (x :: xs) H2
section
variable {X : Cx} {e : Expr} {es : List Expr} {te : TE} {t : TA} {pos : Pos}
theorem pa_nil : PA X [] tNil := fun _ _ _ _ H Q I h => Calls.spliced_nil ⟨[], H, I, .nil, h⟩
theorem pa_cons (ha : PE X e te) (hr : PA X es t) (hs : starEach (e :: es) X.env = (false, eval e X.env) :: starEach es X.env := by rfl) : PA X (e :: es) (tCons te t) := by
  intro pos pins s σ H Q I h
  rw [hs]
  show wpAny _ _ (spliced ((false, eval e X.env) :: backTo pos (starEach es X.env))) _ _ s
  refine Calls.spliced_cons (thn (ha pins s σ H _ I h) fun u s1 ⟨x, H1, I1, r1, q1⟩ => ?_)
  exact thn (hr pos pins s1 σ H1 _ I1 q1) fun us s2 ⟨xs, H2, I2, r2, q2⟩ => ⟨x :: xs, H2, I2, .cons r1 r2, q2⟩

/-- a tuple, a list of written items -/
def tTup (t : TA) : TE := fun σ H Q => t σ H fun xs H1 => xs.length ≤ sizeLine ∧ ∀ p, H1 p = none → Q (.ref p) (upd H1 p (.tup xs))
def tLst (t : TA) : TE := fun σ H Q => t σ H fun xs H1 => xs.length ≤ sizeLine ∧ ∀ p, H1 p = none → Q (.ref p) (upd H1 p (.lst xs))
theorem pe_tup {x1} (h : PA X es t) : PE X (.Tuple es x1 pos) (tTup t) := by
  intro pins s σ H Q I hq
  refine wpAny_Tuple_spliced (thn (h pos pins s σ H _ I hq) fun us s1 ⟨xs, H1, I1, r, z, q⟩ => ⟨by rw [← r.length]; exact z, ?_⟩)
  have hf : H1 s1.heap.objs.size = none := I1.hok.fresh (Nat.le_refl _)
  refine ⟨.ref s1.heap.objs.size, upd H1 s1.heap.objs.size (.tup xs), I1.laid (t' := s1.toks) (fun b u e => Heap.get?_push_of_some _ e) (Nat.le_refl _) ?_, rfl, q _ hf⟩
  exact ⟨z, us, r, ⟨_, Heap.get?_push_size _ rfl, rfl, _, rfl⟩⟩
theorem pe_lst (h : PA X es t) : PE X (.List es pos) (tLst t) := by
  intro pins s σ H Q I hq
  refine wpAny_List_spliced (thn (h pos pins s σ H _ I hq) fun us s1 ⟨xs, H1, I1, r, z, q⟩ => ⟨by rw [← r.length]; exact z, ?_⟩)
  have hf : H1 s1.heap.objs.size = none := I1.hok.fresh (Nat.le_refl _)
  refine ⟨.ref s1.heap.objs.size, upd H1 s1.heap.objs.size (.lst xs), I1.laid (t' := s1.toks) (fun b u e => Heap.get?_push_of_some _ e) (Nat.le_refl _) ?_, rfl, q _ hf⟩
  exact ⟨z, us, 0, r, Heap.get?_push_size _ rfl⟩
end

/-! ### what a def promises -/
/-- a def's promise: the bound arguments in the parameters' order, the heap, the wanted end, the wanted exception -/
abbrev Sp := List V → Hp → VK → XK → Prop
/-- how an exception lies behind a call (file 08 gives it): the callers' frames, abstract heap and state ahead of the call, the wish, the exception, the state -/
abbrev CXT := List Env → Hp → Shared → XK → Value → Shared → Prop

/-- the state at a call -/
structure Env0 (P : Program) (w : World) (K : PySem.W.Frag) (mg : Str → Option Value) (base : Heap) (A : Around) (outer : List Env) (s : Shared) (H : Hp) : Prop where
  frames : A.frames = some outer
  mod : Mod K mg base
  bs : ∀ b o, base.get? b = some o → s.heap.get? b = some o ∧ H b = none
  bsz : base.objs.size ≤ s.heap.objs.size
  funs : s.heap.FunFrames base outer
  frf : ∀ b ∈ frs outer, H b = none
  hok : HOk P w H s.heap
  bare : AllBare s.gens
/-- a call's end -/
def CE (outer : List Env) (P : Program) (w : World) (H : Hp) (s : Shared) (Q : VK) (u : Value) (s' : Shared) : Prop :=
  ∃ v H', s'.os = s.os ∧ AllBare s'.gens ∧ Un (frs outer) [] H H' s.heap s'.heap ∧ HOk P w H' s'.heap ∧ RelV v u ∧ Q v H'
def CR (CX : CXT) (outer : List Env) (P : Program) (w : World) (H : Hp) (s : Shared) (Q : VK) (E : XK) (r : Result) (s' : Shared) : Prop :=
  match r with
  | .ok (.ret u) => CE outer P w H s Q u s'
  | .ok _ => False
  | .error e => CX outer H s E e s'
structure FnOk (P : Program) (w : World) (K : PySem.W.Frag) (mg : Str → Option Value) (base : Heap) (CX : CXT) (k : Nat) (f : Addr) (fd : FuncData) (ps : List Str) (sp : Sp) : Prop where
  len : ∀ vs H Q E, sp vs H Q E → vs.length = ps.length
  run : ∀ (A : Around) (outer : List Env) (s : Shared) (H : Hp) (args : Args) (us : List Value) (vs : List V) (Q : VK) (E : XK), Room k A → Env0 P w K mg base A outer s H → BindsTo s fd args (ps.zip us) → Vals vs us → sp vs H Q E →
    codeAny (model P w) A (.call (.ref f) args) (CR CX outer P w H s Q E) s
theorem FnOk.mono {P : Program} {w : World} {K : PySem.W.Frag} {mg : Str → Option Value} {base : Heap} {CX : CXT} {j k : Nat} {f : Addr} {fd : FuncData} {ps : List Str} {sp : Sp} (F : FnOk P w K mg base CX j f fd ps sp) (h : j ≤ k) :
    FnOk P w K mg base CX k f fd ps sp := ⟨F.len, fun A outer s H args us vs Q E hr => F.run A outer s H args us vs Q E (hr.mono h)⟩
/-- a weaker promise -/
theorem FnOk.imp {P : Program} {w : World} {K : PySem.W.Frag} {mg : Str → Option Value} {base : Heap} {CX : CXT} {k : Nat} {f : Addr} {fd : FuncData} {ps : List Str} {sp sp' : Sp} (F : FnOk P w K mg base CX k f fd ps sp)
    (h : ∀ vs H Q E, sp' vs H Q E → sp vs H Q E) : FnOk P w K mg base CX k f fd ps sp' :=
  ⟨fun vs H Q E q => F.len vs H Q E (h _ _ _ _ q), fun A outer s H args us vs Q E hr he hb hv hs => F.run A outer s H args us vs Q E hr he hb hv (h _ _ _ _ hs)⟩

theorem Env0.make {P : Program} {w : World} {K : PySem.W.Frag} {mg : Str → Option Value} {base : Heap} {A : Around} {outer : List Env} {s : Shared} {H : Hp} (e : Env0 P w K mg base A outer s H) (C : Addr) (us : List Value) (kw : List (Str × Value)) :
    Env0 P w K mg base (A.under (.builtin "type.__call__" ⟨.ref C :: us, kw⟩)) outer s H := ⟨by first | exact e.frames | (simpa [Around.under, Code.envs, Code.isFrame, pushEnvs] using e.frames), e.mod, e.bs, e.bsz, e.funs, e.frf, e.hok, e.bare⟩
theorem Env0.in1 {P : Program} {w : World} {K : PySem.W.Frag} {mg : Str → Option Value} {base : Heap} {A : Around} {outer : List Env} {s : Shared} {H : Hp} (e : Env0 P w K mg base A outer s H) :
    Env0 P w K mg base A.in1 outer s H := ⟨e.frames, e.mod, e.bs, e.bsz, e.funs, e.frf, e.hok, e.bare⟩

section
variable {X : Cx} {pins : List (Addr × Obj)} {σ : St} {H : Hp} {s s' : Shared}
/-- from a body: what a callee wants -/
theorem Inv.env0 (I : Inv X pins σ H s) : Env0 X.prog X.w X.K X.mg X.base X.A X.stack s H :=
  ⟨I.ok.frames, I.ok.mod, I.bs, Nat.le_trans I.ok.bsz I.sz, I.stack, I.stkFree, I.hok, I.bare⟩
/-- behind a call -/
theorem Inv.after {Q : VK} {u : Value} (I : Inv X pins σ H s) (h : CE X.stack X.prog X.w H s Q u s') : EP X pins σ Q u s' := by
  obtain ⟨v, H', os, bare, un, hok, r, q⟩ := h
  obtain ⟨hh, g, d, t, os'⟩ := s'
  obtain rfl : os' = s.os := os
  exact ⟨v, H', I.call (h' := hh) (g' := g) (d' := d) (t' := t) (ch := []) un hok bare (fun b z => absurd z (by simp)), r, q⟩
end

/-! ### calls -/
/-- f(..): the written arguments, then the defaults dvs; E: what is wanted of an exception -/
def tCall (sp : Sp) (dvs : List V) (E : XK) (t : TA) : TE := fun σ H Q => t σ H fun vs H1 => sp (vs ++ dvs) H1 Q E
/-- o.m(..) of an instance of the class at C -/
def tMeth (C : Addr) (m : Str) (sp : Sp) (dvs : List V) (E : XK) (ta : TE) (t : TA) : TE := fun σ H Q => ta σ H fun x H1 => ∃ a dx fs, x = .ref a ∧ H1 a = some (.ins C dx fs) ∧ fs.lookup m = none ∧
  t σ H1 fun vs H2 => sp (x :: (vs ++ dvs)) H2 Q E
/-- C(..): a new instance and its dict, then __init__ -/
def tMake (C : Addr) (sp : Sp) (dvs : List V) (E : XK) (t : TA) : TE := fun σ H Q => t σ H fun vs H1 => ∀ x dx, H1 x = none → H1 dx = none → dx ≠ x →
  sp (.ref x :: (vs ++ dvs)) (upd (upd H1 dx (.own x)) x (.ins C dx [])) (fun v H2 => v = .non ∧ Q (.ref x) H2) E

/-- how the parameters are bound: us the positional arguments, kw the keywords' values by name, ds the defaults that fill up -/
def Binds (K : PySem.W.Frag) (fd : FuncData) (ps : List Str) (ds : List Value) : Prop :=
  ∀ (s : Shared) (us : List Value), K.In s.heap → (us ++ ds).length = ps.length → BindsTo s fd ⟨us, []⟩ (ps.zip (us ++ ds))
/-- every parameter is given -/
theorem Binds.all {K : PySem.W.Frag} {fd : FuncData} {ps : List Str} (h : ∀ us : List Value, us.length = ps.length → bindArgs fd ⟨us, []⟩ = pure (ps.zip us)) : Binds K fd ps [] := fun s us _ hl => by
  rw [List.append_nil] at hl ⊢
  exact .of_eq (h us hl)

/-- an exception of a callee reaches what this body wants of exceptions -/
def Passes (CX : CXT) (X : Cx) (E : XK) : Prop := ∀ (pins : List (Addr × Obj)) (σ : St) (H : Hp) (s : Shared) (e : Value) (s' : Shared), Inv X pins σ H s → CX X.stack H s E e s' → X.xe e s'

section
variable {X : Cx} {CX : CXT} {k : Nat} {f C : Addr} {fd : FuncData} {ps : List Str} {sp : Sp} {dvs : List V} {ds : List Value} {E : XK} {x m : Str} {p pos apos : Pos} {e o : Expr} {es : List Expr} {ta : TE} {t : TA}

/-- the callee runs -/
theorem run_fn {pins : List (Addr × Obj)} {σ : St} {H : Hp} {s : Shared} {Q : VK} {us : List Value} {vs : List V} (F : FnOk X.prog X.w X.K X.mg X.base CX k f fd ps sp) (hr : Room k X.A) (hb : Binds X.K fd ps ds) (hd : Vals dvs ds) (hx : Passes CX X E)
    (I : Inv X pins σ H s) (r : Vals vs us) (h : sp (vs ++ dvs) H Q E) : wpAny (model X.prog X.w) X.A (call (.ref f) us) (EP X pins σ Q) X.xe s := by
  have r2 : Vals (vs ++ dvs) (us ++ ds) := r.append hd
  have hl : (us ++ ds).length = ps.length := by rw [← r2.length]; exact F.len _ _ _ _ h
  refine wpAny_call (codeAny_mono (F.run X.A X.stack s H ⟨us, []⟩ (us ++ ds) (vs ++ dvs) Q E hr I.env0 (hb s us I.kIn hl) r2 h) fun r s' hq => ?_)
  cases r with
  | error e => exact hx pins σ H s e s' I hq
  | ok fl =>
    cases fl with
    | ret u => exact I.after hq
    | next => exact False.elim hq
    | brk => exact False.elim hq
    | cont => exact False.elim hq

theorem pe_call (F : FnOk X.prog X.w X.K X.mg X.base CX k f fd ps sp) (hr : Room k X.A) (hg : Gl X x) (hm : X.mg x = some (.ref f)) (hk : PySem.W.keepIn X.K (.ref f) = true) (hb : Binds X.K fd ps ds) (hd : Vals dvs ds) (hx : Passes CX X E)
    (ha : PA X (e :: es) t) (hdb : (x == ("__debug__" : Str)) = false := by decide) (he : starEach (e :: es) X.env = (false, eval e X.env) :: starEach es X.env := by rfl) (hpl : (backTo pos (starEach es X.env)).any (·.1) = false := by rfl) :
    PE X (.Call (.Name x p) (e :: es) [] pos) (tCall sp dvs E t) := by
  intro pins s σ H Q I h
  refine wpAny_Call_Name_kw (ld_glob I hg hm ?_ hdb)
  refine PySem.W.callWith_K (h₀ := X.base) I.ok.mod.kin hk (thn (ha pos pins s σ H _ I h) fun us s1 ⟨vs, H1, I1, r, q⟩ => ⟨I1.kIn, ?_⟩) he hpl
  exact run_fn F hr hb hd hx I1 r q
theorem pe_call0 (F : FnOk X.prog X.w X.K X.mg X.base CX k f fd ps sp) (hr : Room k X.A) (hg : Gl X x) (hm : X.mg x = some (.ref f)) (hk : PySem.W.keepIn X.K (.ref f) = true) (hb : Binds X.K fd ps ds) (hd : Vals dvs ds) (hx : Passes CX X E)
    (hdb : (x == ("__debug__" : Str)) = false := by decide) : PE X (.Call (.Name x p) [] [] pos) (tCall sp dvs E tNil) := by
  intro pins s σ H Q I h
  refine wpAny_Call_Name_kw (ld_glob I hg hm ?_ hdb)
  exact PySem.W.callWith_K0 I.kIn hk (run_fn (us := []) F hr hb hd hx I .nil h)

/-- o.m(e, ..) -/
theorem pe_meth {pl : Sem Bool} (he : PE X o ta) (c : Cls X.K C) (hm : Meth X.K C m f) (F : FnOk X.prog X.w X.K X.mg X.base CX k f fd ps sp) (hr : Room k X.A) (hb : Binds X.K fd ps ds) (hd : Vals dvs ds) (hx : Passes CX X E) (ha : PA X (e :: es) t)
    (hst : starEach (e :: es) X.env = (false, eval e X.env) :: starEach es X.env := by rfl) (hpl : (backTo pos (starEach es X.env)).any (·.1) = false := by rfl)
    (ht : eval (.Call (.Attribute o m apos) (e :: es) [] pos) X.env = (do
      let ov ← eval o X.env
      standAt apos.atName
      let (f, first) ← holding [ov] (getMethod ov m pl)
      callWith pos f first (backTo pos (starEach (e :: es) X.env)) (backToKw pos (keywordEach [] X.env))) := by rfl) :
    PE X (.Call (.Attribute o m apos) (e :: es) [] pos) (tMeth C m sp dvs E ta t) := by
  intro pins s σ H Q I h
  refine PySem.W.methodCall_KW (pl := pl) (thn (he pins s σ H _ I h) fun u s1 ⟨x, H1, I1, rx, a, dx, fs, ex, ea, l, q⟩ => ?_) ht
  subst ex
  obtain rfl : u = Value.ref a := rx
  refine getmeth_ok I1 ea c hm l ?_
  refine PySem.W.callWith_K (first := [.ref a]) (h₀ := X.base) I.ok.mod.kin hm.kp (thn (ha pos pins s1 σ H1 _ I1 q) fun us s2 ⟨vs, H2, I2, r, q2⟩ => ⟨I2.kIn, ?_⟩) hst hpl
  exact run_fn (us := .ref a :: us) (vs := .ref a :: vs) F hr hb hd hx I2 (.cons rfl r) q2
/-- o.m() -/
theorem pe_meth0 {pl : Sem Bool} (he : PE X o ta) (c : Cls X.K C) (hm : Meth X.K C m f) (F : FnOk X.prog X.w X.K X.mg X.base CX k f fd ps sp) (hr : Room k X.A) (hb : Binds X.K fd ps ds) (hd : Vals dvs ds) (hx : Passes CX X E)
    (ht : eval (.Call (.Attribute o m apos) [] [] pos) X.env = (do
      let ov ← eval o X.env
      standAt apos.atName
      let (f, first) ← holding [ov] (getMethod ov m pl)
      callWith pos f first (backTo pos (starEach [] X.env)) (backToKw pos (keywordEach [] X.env))) := by rfl) :
    PE X (.Call (.Attribute o m apos) [] [] pos) (tMeth C m sp dvs E ta tNil) := by
  intro pins s σ H Q I h
  refine PySem.W.methodCall_KW (pl := pl) (thn (he pins s σ H _ I h) fun u s1 ⟨x, H1, I1, rx, a, dx, fs, ex, ea, l, q⟩ => ?_) ht
  subst ex
  obtain rfl : u = Value.ref a := rx
  refine getmeth_ok I1 ea c hm l ?_
  exact PySem.W.callWith_K0 (first := [.ref a]) I1.kIn hm.kp (run_fn (us := [.ref a]) (vs := [.ref a]) F hr hb hd hx I1 (.cons rfl .nil) q)

/-- what a class must have to be made -/
structure Mk (K : PySem.W.Frag) (C f : Addr) : Prop where
  makes : PySem.W.makesIn K C = true
  init : PySem.W.findIn K (.ref C) "__init__" = some (some (.ref f))
  fn : PySem.W.isFn K (.ref f) = true
  kp : PySem.W.keepIn K (.ref C) = true

theorem run_make {pins : List (Addr × Obj)} {σ : St} {H : Hp} {s : Shared} {Q : VK} {us : List Value} {vs : List V} (M : Mk X.K C f) (F : FnOk X.prog X.w X.K X.mg X.base CX k f fd ps sp) (hr : Room (k + 1) X.A) (hb : Binds X.K fd ps ds) (hd : Vals dvs ds)
    (hx : Passes CX X E) (I : Inv X pins σ H s) (r : Vals vs us)
    (h : ∀ x dx, H x = none → H dx = none → dx ≠ x → sp (.ref x :: (vs ++ dvs)) (upd (upd H dx (.own x)) x (.ins C dx [])) (fun v H2 => v = .non ∧ Q (.ref x) H2) E) :
    wpAny (model X.prog X.w) X.A (call (.ref C) us) (EP X pins σ Q) X.xe s := by
  have hq := h (s.heap.objs.size + 1) s.heap.objs.size (I.hok.fresh (Nat.le_succ _)) (I.hok.fresh (Nat.le_refl _)) (Nat.ne_of_lt (Nat.lt_succ_self _))
  have I2 := Inv.made (C := C) I
  have r2 : Vals (V.ref (s.heap.objs.size + 1) :: (vs ++ dvs)) (Value.ref (s.heap.objs.size + 1) :: (us ++ ds)) := .cons rfl (r.append hd)
  have hl : (Value.ref (s.heap.objs.size + 1) :: us ++ ds).length = ps.length := by
    have e := r2.length
    rw [F.len _ _ _ _ hq] at e
    exact e.symm
  refine wpAny_call (make_map (f := f) I.kIn M.makes M.init (beq_iff_eq.mp M.fn) (codeAny_mono (F.run _ X.stack _ _ ⟨Value.ref (s.heap.objs.size + 1) :: us, []⟩ (Value.ref (s.heap.objs.size + 1) :: (us ++ ds)) _ _ E (hr.make C us [])
    (I2.env0.make C us []) (hb _ (Value.ref (s.heap.objs.size + 1) :: us) I2.kIn hl) r2 hq) fun r s' hq' => ?_))
  cases r with
  | error e => exact hx pins σ _ _ e s' I2 hq'
  | ok fl =>
    cases fl with
    | ret u =>
      obtain ⟨v, H', I3, rv, ev, q3⟩ := I2.after hq'
      subst ev
      exact ⟨rv, ⟨V.ref (s.heap.objs.size + 1), H', I3, rfl, q3⟩⟩
    | next => exact False.elim hq'
    | brk => exact False.elim hq'
    | cont => exact False.elim hq'
theorem pe_make (M : Mk X.K C f) (F : FnOk X.prog X.w X.K X.mg X.base CX k f fd ps sp) (hr : Room (k + 1) X.A) (hg : Gl X x) (hm : X.mg x = some (.ref C)) (hb : Binds X.K fd ps ds) (hd : Vals dvs ds) (hx : Passes CX X E)
    (ha : PA X (e :: es) t) (hdb : (x == ("__debug__" : Str)) = false := by decide) (he : starEach (e :: es) X.env = (false, eval e X.env) :: starEach es X.env := by rfl) (hpl : (backTo pos (starEach es X.env)).any (·.1) = false := by rfl) :
    PE X (.Call (.Name x p) (e :: es) [] pos) (tMake C sp dvs E t) := by
  intro pins s σ H Q I h
  refine wpAny_Call_Name_kw (ld_glob I hg hm ?_ hdb)
  refine PySem.W.callWith_K (h₀ := X.base) I.ok.mod.kin M.kp (thn (ha pos pins s σ H _ I h) fun us s1 ⟨vs, H1, I1, r, q⟩ => ⟨I1.kIn, ?_⟩) he hpl
  exact run_make M F hr hb hd hx I1 r q
theorem pe_make0 (M : Mk X.K C f) (F : FnOk X.prog X.w X.K X.mg X.base CX k f fd ps sp) (hr : Room (k + 1) X.A) (hg : Gl X x) (hm : X.mg x = some (.ref C)) (hb : Binds X.K fd ps ds) (hd : Vals dvs ds) (hx : Passes CX X E)
    (hdb : (x == ("__debug__" : Str)) = false := by decide) : PE X (.Call (.Name x p) [] [] pos) (tMake C sp dvs E tNil) := by
  intro pins s σ H Q I h
  refine wpAny_Call_Name_kw (ld_glob I hg hm ?_ hdb)
  exact PySem.W.callWith_K0 I.kIn M.kp (run_make (us := []) M F hr hb hd hx I .nil h)
end

/-! ### keywords -/
/-- the values of the keywords, from the left -/
def PK (X : Cx) (kws : List Keyword) (t : TA) : Prop :=
  ∀ (pos : Pos) (pins : List (Addr × Obj)) (s : Shared) (σ : St) (H : Hp) (Q : List V → Hp → Prop), Inv X pins σ H s → t σ H Q → wpAny (model X.prog X.w) X.A (evalAll ((backToKw pos (keywordEach kws X.env)).map (·.2))) (AP X pins σ Q) X.xe s
section
variable {X : Cx} {CX : CXT} {k : Nat} {f C : Addr} {fd : FuncData} {ps ks : List Str} {sp : Sp} {E : XK} {x m : Str} {p pos apos kpos : Pos} {e o : Expr} {es : List Expr} {kws : List Keyword} {te ta : TE} {t tk : TA} {nm : Option Str}
theorem pk_nil : PK X [] tNil := fun _ _ _ _ H Q I h => wpAny_evalAll_nil ⟨[], H, I, .nil, h⟩
theorem pk_cons (ha : PE X e te) (hr : PK X kws t) : PK X (⟨nm, e, kpos⟩ :: kws) (tCons te t) := by
  intro pos pins s σ H Q I h
  show wpAny _ _ (evalAll ((do let v ← eval e X.env; standAt pos; pure v) :: (backToKw pos (keywordEach kws X.env)).map (·.2))) _ _ s
  refine wpAny_evalAll_cons (wpAny_bind (thn (ha pins s σ H _ I h) fun u s1 ⟨x, H1, I1, r1, q1⟩ => wpAny_bind (wpAny_standAt (wpAny_pure ?_))))
  exact thn (hr pos pins s1 σ H1 _ I1 q1) fun us s2 ⟨xs, H2, I2, r2, q2⟩ => ⟨x :: xs, H2, I2, .cons r1 r2, q2⟩

/-- how a call with keywords binds: g puts the positional values us and the keywords' values ws (names ks) in the parameters' order, defaults among them -/
structure KBinds (K : PySem.W.Frag) (fd : FuncData) (ps ks : List Str) (g : List Value → List Value → List Value) (gV : List V → List V → List V) : Prop where
  to : ∀ (s : Shared) (us ws : List Value), K.In s.heap → (g us ws).length = ps.length → BindsTo s fd ⟨us, ks.zip ws⟩ (ps.zip (g us ws))
  rel : ∀ {vs : List V} {us : List Value} {zs : List V} {ws : List Value}, Vals vs us → Vals zs ws → Vals (gV vs zs) (g us ws)
def tCallK (sp : Sp) (gV : List V → List V → List V) (E : XK) (t tk : TA) : TE := fun σ H Q => t σ H fun vs H1 => tk σ H1 fun zs H2 => sp (gV vs zs) H2 Q E
variable {g : List Value → List Value → List Value} {gV : List V → List V → List V}
theorem run_fnk {pins : List (Addr × Obj)} {σ : St} {H : Hp} {s : Shared} {Q : VK} {us ws : List Value} {vs zs : List V} (F : FnOk X.prog X.w X.K X.mg X.base CX k f fd ps sp) (hr : Room k X.A) (hb : KBinds X.K fd ps ks g gV) (hx : Passes CX X E)
    (I : Inv X pins σ H s) (r : Vals vs us) (rz : Vals zs ws) (h : sp (gV vs zs) H Q E) : wpAny (model X.prog X.w) X.A (call (.ref f) us (ks.zip ws)) (EP X pins σ Q) X.xe s := by
  have r2 := hb.rel r rz
  have hl : (g us ws).length = ps.length := by rw [← r2.length]; exact F.len _ _ _ _ h
  refine wpAny_call (codeAny_mono (F.run X.A X.stack s H ⟨us, ks.zip ws⟩ (g us ws) (gV vs zs) Q E hr I.env0 (hb.to s us ws I.kIn hl) r2 h) fun r s' hq => ?_)
  cases r with
  | error e => exact hx pins σ H s e s' I hq
  | ok fl =>
    cases fl with
    | ret u => exact I.after hq
    | next => exact False.elim hq
    | brk => exact False.elim hq
    | cont => exact False.elim hq
/-- f(e, .., k = v, ..) -/
theorem pe_callK (F : FnOk X.prog X.w X.K X.mg X.base CX k f fd ps sp) (hr : Room k X.A) (hg : Gl X x) (hm : X.mg x = some (.ref f)) (hk : PySem.W.keepIn X.K (.ref f) = true) (hb : KBinds X.K fd ps ks g gV) (hx : Passes CX X E)
    (ha : PA X (e :: es) t) (hkw : PK X kws tk) (hall : (backToKw pos (keywordEach kws X.env)).all (·.1.isSome) = true := by rfl) (hks : (backToKw pos (keywordEach kws X.env)).filterMap (·.1) = ks := by rfl)
    (hdb : (x == ("__debug__" : Str)) = false := by decide) (he : starEach (e :: es) X.env = (false, eval e X.env) :: starEach es X.env := by rfl)
    (hpl : ((backTo pos (starEach (e :: es) X.env)).any (·.1) || (backToKw pos (keywordEach kws X.env)).any (·.1.isNone)) = false := by rfl) :
    PE X (.Call (.Name x p) (e :: es) kws pos) (tCallK sp gV E t tk) := by
  intro pins s σ H Q I h
  refine wpAny_Call_Name_kw (ld_glob I hg hm ?_ hdb)
  refine PySem.W.callWith_KW (h₀ := X.base) I.ok.mod.kin hk hall (thn (ha pos pins s σ H _ I h) fun us s1 ⟨vs, H1, I1, r, q⟩ => ?_) hpl he
  refine thn (hkw pos pins s1 σ H1 _ I1 q) fun ws s2 ⟨zs, H2, I2, rz, q2⟩ => ⟨I2.kIn, ?_⟩
  rw [hks]
  exact run_fnk F hr hb hx I2 r rz q2
end

/-! ### a def's body keeps its promise -/
/-- names: the parameters first -/
structure FnScope (N P : List Str) (sc : Scope) : Prop where
  kind : sc.kind = .function
  co : sc.isCoroutine = false
  gen : sc.isGenerator = false
  nd : N.Nodup
  pre : N.take P.length = P
  par : ∀ x ∈ P, sc.names.lookup x = some .local ∨ sc.names.lookup x = some .cell
  nofree : ∀ y ∈ sc.names, y.2 ≠ .free

theorem bindL_out {kindOf : Str → Option NameKind} {x : Str} : ∀ {binds : List (Str × Value)} {m : Str → Option Value}, (∀ v, (x, v) ∉ binds) → bindL kindOf binds m x = m x
  | [], _, _ => rfl
  | (n, v) :: r, m, h => by
    unfold bindL
    rw [bindL_out fun w hw => h w (List.mem_cons_of_mem _ hw)]
    split
    · have : x ≠ n := by rintro rfl; exact h v List.mem_cons_self
      simp [this]
    · rfl
theorem bindC_out {kindOf : Str → Option NameKind} {x : Str} : ∀ {binds : List (Str × Value)} {m : Str → Option Value}, (∀ v, (x, v) ∉ binds) → bindC kindOf binds m x = m x
  | [], _, _ => rfl
  | (n, v) :: r, m, h => by
    unfold bindC
    rw [bindC_out fun w hw => h w (List.mem_cons_of_mem _ hw)]
    split
    · rfl
    · have : x ≠ n := by rintro rfl; exact h v List.mem_cons_self
      simp [this]
theorem bindL_get {kindOf : Str → Option NameKind} {x : Str} {v : Value} : ∀ {P : List Str} {vs : List Value} {i : Nat} {m : Str → Option Value}, P.Nodup → P[i]? = some x → vs[i]? = some v → kindOf x = some .local →
    bindL kindOf (P.zip vs) m x = some v
  | [], _, _, _, _, h, _, _ => by simp at h
  | _ :: _, [], _, _, _, _, h, _ => by simp at h
  | p :: P, w :: vs, 0, m, nd, h1, h2, hk => by
    simp at h1 h2; subst h1; subst h2
    show bindL kindOf ((p, w) :: P.zip vs) m p = _
    unfold bindL
    rw [bindL_out fun v hv => (List.nodup_cons.mp nd).1 (List.of_mem_zip hv).1, if_pos hk]
    simp
  | p :: P, w :: vs, i + 1, m, nd, h1, h2, hk => by
    show bindL kindOf ((p, w) :: P.zip vs) m x = _
    unfold bindL
    exact bindL_get (i := i) (List.nodup_cons.mp nd).2 (by simpa using h1) (by simpa using h2) hk
theorem bindC_get {kindOf : Str → Option NameKind} {x : Str} {v : Value} : ∀ {P : List Str} {vs : List Value} {i : Nat} {m : Str → Option Value}, P.Nodup → P[i]? = some x → vs[i]? = some v → kindOf x ≠ some .local →
    bindC kindOf (P.zip vs) m x = some v
  | [], _, _, _, _, h, _, _ => by simp at h
  | _ :: _, [], _, _, _, _, h, _ => by simp at h
  | p :: P, w :: vs, 0, m, nd, h1, h2, hk => by
    simp at h1 h2; subst h1; subst h2
    show bindC kindOf ((p, w) :: P.zip vs) m p = _
    unfold bindC
    rw [bindC_out fun v hv => (List.nodup_cons.mp nd).1 (List.of_mem_zip hv).1, if_neg hk]
    simp
  | p :: P, w :: vs, i + 1, m, nd, h1, h2, hk => by
    show bindC kindOf ((p, w) :: P.zip vs) m x = _
    unfold bindC
    exact bindC_get (i := i) (List.nodup_cons.mp nd).2 (by simpa using h1) (by simpa using h2) hk

/-- the names' values at the entry -/
def start (N : List Str) (vs : List V) : St := vs.map some ++ List.replicate (N.length - vs.length) none

/-- the context of a def's body, at its entry; an exception leaves the frame, then lies as CX says -/
def cxOf (CX : CXT) (P : Program) (w : World) (K : PySem.W.Frag) (mg : Str → Option Value) (base : Heap) (N : List Str) (qual : Str) (scope : Scope) (f : Addr) (cd : Value) (A : Around) (outer : List Env) (s : Shared) (H : Hp) (E : XK) : Cx where
  prog := P
  w := w
  K := K
  mg := mg
  base := base
  A := A.deeper (envOfC qual scope s.heap.objs.size f cd)
  N := N
  s₀ := s
  H₀ := H
  env := envOfC qual scope s.heap.objs.size f cd
  outer := outer
  stack := envOfC qual scope s.heap.objs.size f cd :: outer
  ex := []
  calm := true
  fn := fun _ => true
  pn := []
  xe := fun e s' => wpAny (model P w) (A.deeper (envOfC qual scope s.heap.objs.size f cd)) (leaving (envOfC qual scope s.heap.objs.size f cd) e) (fun _ s'' => CX outer H s E e s'') (fun e' s'' => CX outer H s E e' s'') s'

theorem cell_has {sc : Scope} {n : Nat} {x : Str} (h : sc.names.lookup x = some .cell) : ∃ c, (cellsFrom n sc.names []).lookup x = some c := by
  have q := PySem.W.cellsFrom_some sc.names n [] (.inl h)
  exact Option.isSome_iff_exists.mp q

theorem inv_start {CX : CXT} {P : Program} {w : World} {K : PySem.W.Frag} {mg : Str → Option Value} {base : Heap} {N ps : List Str} {qual : Str} {scope : Scope} {f : Addr} {cd : Value} {A : Around} {outer : List Env} {s s1 : Shared} {H : Hp} {E : XK} {us : List Value} {vs : List V}
    (S : FnScope N ps scope) (hd : A.handled = none) (e0 : Env0 P w K mg base A outer s H) (hl : vs.length = ps.length) (r : Vals vs us)
    (x : InCallC s s.heap.objs.size (bindL (envOfC qual scope s.heap.objs.size f cd).kindOf (ps.zip us) fun _ => none) (cellsFrom (s.heap.objs.size + 1) scope.names []) (bindC (envOfC qual scope s.heap.objs.size f cd).kindOf (ps.zip us) fun _ => none) s1) :
    Inv (cxOf CX P w K mg base N qual scope f cd A outer s H E) [] (start N vs) H s1 := by
  have hpl : ps.length ≤ N.length := by have := congrArg List.length S.pre; rw [List.length_take] at this; omega
  obtain ⟨h1, tk, rfl, hk⟩ := x.done
  have noA : ∀ b : Addr, b ∉ (cxOf CX P w K mg base N qual scope f cd A outer s H E).ex := fun b z => absurd (show b ∈ ([] : List Addr) from z) (by simp)
  refine ⟨⟨e0.mod, S.kind, rfl, rfl, Nat.le_refl _, fun y z c h1 h2 => ?_, fun y hy => ?_, fun y c _ h => ?_, fun _ => hd, Around.frames_deeper e0.frames, .inr ⟨rfl, rfl⟩, fun b z => absurd z (noA b), e0.bs, e0.bsz, fun b _ _ => noA b, fun b z => absurd z (noA b), e0.funs, e0.frf⟩,
    rfl, e0.bare, Un.kept hk, ⟨_, x.toInCall.ns, fun i y v h1 h2 h3 => ?_⟩, fun y c h => ⟨_, x.cell y c h⟩, e0.hok.fresh (Nat.le_refl _), fun y c h => ?_, fun p hp => absurd (show p ∈ ([] : List (Addr × Obj)) from hp) (by simp), e0.hok.kept hk, ?_⟩
  · exact name_of_addr x.apart (PySem.mem_of_lookup h1) (PySem.mem_of_lookup h2)
  · have hy : scope.names.lookup y = some .cell ∨ scope.names.lookup y = some .free := hy
    rcases hy with hy | hy
    · exact cell_has hy
    · exact absurd rfl (S.nofree _ (PySem.mem_of_lookup hy))
  · exact Nat.le_of_lt (x.above y c (PySem.mem_of_lookup h))
  · have hi : i < vs.length := by
      unfold start at h2
      by_cases hi : i < vs.length
      · exact hi
      · rw [List.getElem?_append_right (by simpa using hi)] at h2
        rw [List.getElem?_replicate] at h2
        split at h2 <;> cases h2
    have ha : vs[i]? = some v := by
      unfold start at h2
      rw [List.getElem?_append_left (by simpa using hi), List.getElem?_map] at h2
      cases e : vs[i]? with
      | none => rw [e] at h2; cases h2
      | some a => rw [e] at h2; cases h2; rfl
    obtain ⟨u, hu, rv⟩ := r.get ha
    have hp : ps[i]? = some y := by
      rw [← S.pre, List.getElem?_take_of_lt (by omega)]; exact h1
    have ndP : ps.Nodup := by rw [← S.pre]; exact S.nd.sublist (List.take_sublist _ _)
    refine ⟨u, rv, ?_⟩
    rcases S.par y (List.mem_of_getElem? hp) with k | k
    · exact .inl ⟨k, bindL_get ndP hp hu k⟩
    · obtain ⟨c, e⟩ := cell_has (n := s.heap.objs.size + 1) k
      refine .inr ⟨.inl k, c, e, ?_⟩
      have q := x.cell y c e
      rw [bindC_get ndP hp hu (by show scope.names.lookup y ≠ _; rw [k]; decide)] at q
      exact q
  · exact e0.hok.fresh (Nat.le_of_lt (x.above y c (PySem.mem_of_lookup h)))
  · unfold start
    show _ = N.length
    rw [List.length_append, List.length_map, List.length_replicate]
    omega

/-- THE RULE: a def (or a method) of the text, by its body. The body's reading t is chosen for each entry; it is run at the parameters' values -/
theorem fn_of {CX : CXT} {P : Program} {w : World} {K : PySem.W.Frag} {mg : Str → Option Value} {base : Heap} {k : Nat} {f : Addr} {name qual : Str} {params : Arguments} {body : List Stmt} {scope : Scope} {dV kV doc pm cdv ct oc : Value} {an od : Option Addr}
    {osl : Array (Option Value)} {N ps : List Str} {sp : Sp} (lk : K.lookup f = some ⟨oc, od, .func (PySem.W.fnOf name qual params body scope dV kV doc pm an cdv ct), osl⟩) (hcd : PySem.W.codeIn K cdv qual = true) (S : FnScope N ps scope)
    (len : ∀ vs H Q E, sp vs H Q E → vs.length = ps.length)
    (hbody : ∀ (A : Around) (outer : List Env) (s : Shared) (H : Hp) (vs : List V) (Q : VK) (E : XK), Room k (A.deeper (envOfC qual scope s.heap.objs.size f cdv)) → sp vs H Q E →
      ∃ t, PSs (cxOf CX P w K mg base N qual scope f cdv A outer s H E) body t ∧ t { nx := fun _ H' => Q .non H', rt := Q } (start N vs) H) :
    FnOk P w K mg base CX (k + 1) f (PySem.W.fnOf name qual params body scope dV kV doc pm an cdv ct) ps sp := by
  refine ⟨len, fun A outer s H args us vs Q E hr e0 hb r hsp => ?_⟩
  have hl := len _ _ _ _ hsp
  have KX : K.In s.heap := e0.mod.kin.keeps fun b o e => (e0.bs b o e).1
  have lim : s.heap.NoLimit := e0.mod.nolimit.keeps fun b o e => (e0.bs b o e).1
  have hkind : ∀ y ∈ ps.zip us, scope.names.lookup y.1 = some .local ∨ (scope.names.lookup y.1 = some .cell ∧ ((cellsFrom (s.heap.objs.size + 1) scope.names []).lookup y.1).isSome = true) := fun ⟨n, v⟩ hy => by
    rcases S.par n (List.of_mem_zip hy).1 with q | q
    · exact .inl q
    · exact .inr ⟨q, PySem.W.cellsFrom_some _ _ _ (.inl q)⟩
  refine codeAny_call_function hr.depth (KX _ _ lk) rfl S.co S.gen rfl (PySem.W.codeRec_of KX hcd) (hb _ _ _ _ ?_)
  refine wpAny_newFunctionEnv_cells S.kind hkind fun env he s1 x => ?_
  subst he
  refine ⟨lim.keeps x.toInCall.keep, codeAny_func ?_⟩
  obtain ⟨t, ht, hq⟩ := hbody A outer s H vs Q E (hr.deeper _) hsp
  have I : Inv (cxOf CX P w K mg base N qual scope f cdv A outer s H E) [] (start N vs) H s1 := inv_start S hr.hd e0 hl r x
  refine wpAny_mono (ht [] s1 (start N vs) H _ I hq) (fun fl s' hs => ?_) fun e s' hs => hs
  have fin : ∀ {σ' : St} {H' : Hp} {v : V} {u : Value}, Inv (cxOf CX P w K mg base N qual scope f cdv A outer s H E) [] σ' H' s' → RelV v u → Q v H' → CE outer P w H s Q u s' :=
    fun {σ' H' v u} J rv q => ⟨v, H', J.os, J.bare, J.base, J.hok, rv, q⟩
  cases fl with
  | ret u =>
    obtain ⟨v, σ', H', J, rv, q⟩ := hs
    exact fin J rv q
  | next =>
    obtain ⟨σ', H', J, q⟩ := hs
    exact fin (v := V.non) (u := Value.none) J rfl q
  | brk =>
    obtain ⟨_, _, _, q⟩ := hs
    exact False.elim q
  | cont =>
    obtain ⟨_, _, _, q⟩ := hs
    exact False.elim q
end L2

namespace L2
open PySem PySem.Spec PyProof.Rows
section
variable {X : Cx} {x : Str} {p pos : Pos} {e : Expr} {es : List Expr} {t : TA} {id T : String} {r : List V → Hp → VK → Prop}

def tCB (r : List V → Hp → VK → Prop) (t : TA) : TE := fun σ H Q => t σ H fun vs H1 => r vs H1 Q
/-- f(e, ..), f a built-in function -/
theorem pe_callB (hc : CallR X (.builtin id) r) (hg : Gl X x) (hm : X.mg x = none) (hv : bootBuiltins x = some (.builtin id)) (ha : PA X (e :: es) t) (hn : x ≠ "__name__" := by decide) (hdb : (x == ("__debug__" : Str)) = false := by decide)
    (he : starEach (e :: es) X.env = (false, eval e X.env) :: starEach es X.env := by rfl) (hpl : (backTo pos (starEach es X.env)).any (·.1) = false := by rfl) : PE X (.Call (.Name x p) (e :: es) [] pos) (tCB r t) := by
  intro pins s σ H Q I h
  refine wpAny_Call_Name_kw (ld_blt I hg hm hv ?_ hn hdb)
  exact PyProof.Rows.callWith_builtin1 (thn (ha pos pins s σ H _ I h) fun us s1 ⟨vs, H1, I1, r1, q1⟩ => hc pins s1 σ H1 vs us Q I1 r1 q1) he hpl
/-- T(e, ..), T a built-in type -/
theorem pe_callTy (hc : CallR X (.type T) r) (hg : Gl X x) (hm : X.mg x = none) (hv : bootBuiltins x = some (.type T)) (ha : PA X (e :: es) t) (hn : x ≠ "__name__" := by decide) (hdb : (x == ("__debug__" : Str)) = false := by decide)
    (he : starEach (e :: es) X.env = (false, eval e X.env) :: starEach es X.env := by rfl) (hpl : (backTo pos (starEach es X.env)).any (·.1) = false := by rfl) : PE X (.Call (.Name x p) (e :: es) [] pos) (tCB r t) := by
  intro pins s σ H Q I h
  refine wpAny_Call_Name_kw (ld_blt I hg hm hv ?_ hn hdb)
  exact PyProof.Rows.callWith_type1 (thn (ha pos pins s σ H _ I h) fun us s1 ⟨vs, H1, I1, r1, q1⟩ => hc pins s1 σ H1 vs us Q I1 r1 q1) he hpl
/-- T() -/
theorem pe_callTy0 (hc : CallR X (.type T) r) (hg : Gl X x) (hm : X.mg x = none) (hv : bootBuiltins x = some (.type T)) (hn : x ≠ "__name__" := by decide) (hdb : (x == ("__debug__" : Str)) = false := by decide) :
    PE X (.Call (.Name x p) [] [] pos) (tCB r tNil) := by
  intro pins s σ H Q I h
  refine wpAny_Call_Name_kw (ld_blt I hg hm hv ?_ hn hdb)
  exact PyProof.Rows.callWith_type0 (hc pins s σ H [] [] Q I .nil h)
end
end L2

namespace HT
open PySem PyProof.Rows

/-- t < u of tuples of ints -/
def lexLt : List Int → List Int → Bool
  | [], [] => false
  | [], _ :: _ => true
  | _ :: _, [] => false
  | x :: xs, y :: ys => if x = y then lexLt xs ys else decide (x < y)
theorem lexLt_cons (x y : Int) (xs ys : List Int) : lexLt (x :: xs) (y :: ys) = if x = y then lexLt xs ys else decide (x < y) := rfl
theorem lexLt_nil_nil : lexLt [] [] = false := rfl
theorem lexLt_nil_cons (y : Int) (ys : List Int) : lexLt [] (y :: ys) = true := rfl
theorem lexLt_cons_nil (x : Int) (xs : List Int) : lexLt (x :: xs) [] = false := rfl

theorem eqAt_int (A : Around) (s : Shared) (a : Int) (t : Tok) (c : Int) (u : Tok) : ∃ e, SeqAt.EqAt A s (.int a t) (.int c u) e ∧ (e = true ↔ a = c) :=
  ⟨(a == c), SeqAt.EqAt.int_int a t c u, by simp⟩
theorem rcLt_int (A : Around) (s : Shared) (a : Int) (t : Tok) (c : Int) (u : Tok) (prog : Program) (w : World) (E : Value → Shared → Prop) (Q : Value → Shared → Prop) (h : Q (.bool (decide (a < c))) s) :
    wpAny (model prog w) A (richCompare .Lt (.int a t) (.int c u)) Q E s :=
  (PyProof.Rows.lt_int h : wpAny (model prog w) A (compareOp .Lt (.int a t) (.int c u)) Q E s)

section
open PySem.SeqAt
open PySem.AutoSeq1 (wpAny_loadPart')
open PySem.MeetsSeq PySem.MeetsSeq2 PySem.MeetsSeq3

theorem tuple_lt_ints (l b : Addr) (items items2 : Array Value) (n n2 : Nat) (dd dd2 : Option Addr) (sl sl2 : Array (Option Value)) (ns ms : List Int) (hi : IntsAre items.toList ns) (hj : IntsAre items2.toList ms) :
    Meets (Builtin.«tuple.__lt__» ⟨[.ref l, .ref b], []⟩)
      (fun _ R s => s.heap.get? l = some { cls := .type "tuple", dict := dd, data := .seq items n, slots := sl } ∧ s.heap.get? b = some { cls := .type "tuple", dict := dd2, data := .seq items2 n2, slots := sl2 } ∧
        R (.ok (.ret (.bool (lexLt ns ms)))) s) :=
  .of_wp fun prog w A R s h => by
    obtain ⟨hp, g, d, tk, os⟩ := s; obtain ⟨hl, hb, h⟩ := h
    have f2 := AutoSeq1.sub_tuple_tuple
    have z1 : items.size = ns.length := by rw [← hi.length]; simp
    have z2 : items2.size = ms.length := by rw [← hj.length]; simp
    wp_walk using wpAny_loadPart' hl, wpAny_loadPart' hb, wpAny_forIn_list _ (fun rest b s' => b.1 = none ∧ s' = ⟨hp, g, d, tk, os⟩ ∧ ∃ (vs ws : List Value) (ns' ms' : List Int), rest = vs.zip ws ∧
      IntsAre vs ns' ∧ IntsAre ws ms' ∧ ns'.length + items2.size = ms'.length + items.size ∧ R (.ok (.ret (.bool (lexLt ns' ms')))) ⟨hp, g, d, tk, os⟩) _
    case turn =>
      rintro ⟨y, x⟩ rest b s' ⟨hb', rfl, vs, ws, ns', ms', hz, hvi, hwi, hlen, hR⟩
      cases hvi with
      | nil => rw [List.zip_nil_left] at hz; cases hz
      | cons a t hvi' =>
        cases hwi with
        | nil => rw [List.zip_nil_right] at hz; cases hz
        | cons c u hwi' =>
          rw [List.zip_cons_cons] at hz
          injection hz with hyx hrest
          injection hyx with hy hx
          subst hy hx
          rw [lexLt_cons] at hR
          simp only [List.length_cons] at hlen
          obtain ⟨e, he, hiff⟩ := eqAt_int A.in1 ⟨hp, g, d, tk, os⟩ a t c u
          refine wpAny_bind (he prog w _ _ ?_)
          cases e with
          | true =>
            rw [if_pos (hiff.mp rfl)] at hR
            wp_walk
            exact ⟨rfl, rfl, _, _, _, _, hrest, hvi', hwi', by omega, hR⟩
          | false =>
            rw [if_neg (fun q => absurd (hiff.mpr q) Bool.false_ne_true)] at hR
            have hri := rcLt_int A.in1 ⟨hp, g, d, tk, os⟩ a t c u prog w
            wp_walk using hri
            exact ⟨_, rfl, by simpa using hR⟩
    case fin =>
      rintro ⟨b1, b2⟩ s' ⟨hb', rfl, vs, ws, ns', ms', hz, hvi, hwi, hlen, hR⟩
      simp only at hb'
      subst hb'
      have hv : lexLt ns' ms' = decide (items.size < items2.size) := by
        cases hvi with
        | nil =>
          cases hwi with
          | nil =>
            simp only [List.length_nil] at hlen
            rw [lexLt_nil_nil]
            exact (decide_eq_false (by omega)).symm
          | cons c u hw =>
            simp only [List.length_nil, List.length_cons] at hlen
            rw [lexLt_nil_cons]
            exact (decide_eq_true (by omega)).symm
        | cons a t hv =>
          cases hwi with
          | nil =>
            simp only [List.length_nil, List.length_cons] at hlen
            rw [lexLt_cons_nil]
            exact (decide_eq_false (by omega)).symm
          | cons c u hw =>
            rw [List.zip_cons_cons] at hz
            cases hz
      rw [hv] at hR
      wp_walk
      exact ⟨_, rfl, by simpa [Builtin.Tuple.tupleCompareSizes] using hR⟩
    case h =>
      exact ⟨rfl, rfl, items.toList, items2.toList, ns, ms, rfl, hi, hj, by omega, h⟩
end

section
variable {prog : Program} {w : World} {A : Around} {E : Value → Shared → Prop} {s : Shared}

theorem lt_tupInts {l b : Addr} {items items2 : Array Value} {ns ms : List Int} {Q : Value → Shared → Prop} (hl : IsTup s.heap l items) (hb : IsTup s.heap b items2) (hi : IntsAre items.toList ns) (hj : IntsAre items2.toList ms)
    (hu : A.units < cLine) (h : Q (.bool (lexLt ns ms)) s) : wpAny (model prog w) A (compareOp .Lt (.ref l) (.ref b)) Q E s := by
  obtain ⟨⟨cls, dd, data, sl⟩, ho, hc, n, hd⟩ := id hl
  obtain ⟨⟨cls2, dd2, data2, sl2⟩, ho2, hc2, n2, hd2⟩ := id hb
  simp only at hc hd hc2 hd2
  subst hc hd hc2 hd2
  exact richCompare_meets_room (op := .Lt) ⟨_, ho, rfl⟩ ⟨_, ho2, rfl⟩ PySem.F.slot_tuple_lt PySem.F.entry_tuple_lt (PySem.F.args_tuple_lt_2 _ _) (tuple_lt_ints l b items items2 n n2 dd dd2 sl sl2 ns ms hi hj)
    ⟨ho, ho2, show Value.bool (lexLt ns ms) ≠ Value.notImplemented ∧ Q (.bool (lexLt ns ms)) s from ⟨(fun x => nomatch x), h⟩⟩ hu

/-- t + u, t not empty -/
theorem cat_tup {t b : Addr} {vs ws : List Value} {Q : Value → Shared → Prop} (ht : IsTup s.heap t vs.toArray) (hb : IsTup s.heap b ws.toArray) (hv : vs ≠ [])
    (h1 : ws = [] → Q (.ref t) s) (h2 : ws ≠ [] → Q (.ref s.heap.objs.size) { s with heap := s.heap.push { cls := .type "tuple", data := .seq (vs ++ ws).toArray } })
    (hsz : vs.length + ws.length ≤ sizeLine) : wpAny (model prog w) A (binaryOp .Add (.ref t) (.ref b)) Q E s := by
  obtain ⟨⟨cls, dd, data, sl⟩, ho, hc, n, hd⟩ := id ht
  obtain ⟨⟨cls2, dd2, data2, sl2⟩, ho2, hc2, n2, hd2⟩ := id hb
  simp only at hc hd hc2 hd2
  subst hc hd hc2 hd2
  have e : vs.toArray ++ ws.toArray = (vs ++ ws).toArray := by simp
  by_cases hw : ws = []
  · exact concat_meets ⟨_, ho, rfl⟩ ⟨_, ho2, rfl⟩ noFill_tuple_add seq_tuple_add PySem.F.slot_tuple_add PySem.F.entry_tuple_add (PySem.F.args_tuple_add_2 _ _)
      (tuple_addW1 t b vs.toArray ws.toArray n n2 dd dd2 sl sl2 (by simpa using hv) (by simp [hw])) ⟨ho, ho2, h1 hw⟩
  · refine concat_meets ⟨_, ho, rfl⟩ ⟨_, ho2, rfl⟩ noFill_tuple_add seq_tuple_add PySem.F.slot_tuple_add PySem.F.entry_tuple_add (PySem.F.args_tuple_add_2 _ _)
      (tuple_addW2 t b vs.toArray ws.toArray n n2 dd dd2 sl sl2 (by simpa using hv) (by simpa using hw) (by rw [List.size_toArray, List.size_toArray]; exact hsz)) ⟨ho, ho2, ?_⟩
    rw [e]
    exact h2 hw

/-! ### t[a:b], not the whole -/
/-- a slice's bound as a place among n (d where it is left out) -/
def sIx (n d : Nat) : Option Int → Nat
  | none => d
  | some v => if v < 0 then (v + (n : Int)).toNat else min v.toNat n
theorem sIx_none (n d : Nat) : sIx n d none = d := rfl
theorem sIx_nat (n d k : Nat) : sIx n d (some (k : Int)) = min k n := by
  show (if (k : Int) < 0 then ((k : Int) + (n : Int)).toNat else min (k : Int).toNat n) = min k n
  rw [if_neg (by omega), Int.toNat_natCast]
theorem sIx_le (n d : Nat) (hd : d ≤ n) (o : Option Int) : sIx n d o ≤ n := by
  cases o with
  | none => exact hd
  | some v =>
    show (if v < 0 then (v + (n : Int)).toNat else min v.toNat n) ≤ n
    by_cases hv : v < 0
    · rw [if_pos hv]; omega
    · rw [if_neg hv]; exact Nat.min_le_right _ _
theorem clip_eq (v : Int) (n d : Nat) : (if v < 0 then max (v + (n : Int)) 0 else min v (n : Int)) = ((sIx n d (some v) : Nat) : Int) := by
  show (if v < 0 then max (v + (n : Int)) 0 else min v (n : Int)) = (((if v < 0 then (v + (n : Int)).toNat else min v.toNat n) : Nat) : Int)
  by_cases hv : v < 0
  · simp only [if_pos hv]; omega
  · simp only [if_neg hv]; omega
theorem adjust_gen (lo hi : Option Int) (n : Nat) : Builtin.Slice.sliceAdjust lo hi 1 (n : Int) = (((sIx n 0 lo : Nat) : Int), ((sIx n n hi : Nat) : Int)) := by
  have h1 : ¬ ((1 : Int) < 0) := by omega
  unfold Builtin.Slice.sliceAdjust
  simp only [h1, if_false]
  refine Prod.ext ?_ ?_
  · cases lo with
    | none => rfl
    | some v => exact clip_eq v n 0
  · cases hi with
    | none => rfl
    | some v => exact clip_eq v n n
theorem places_gen (i j : Nat) : Builtin.Slice.slicePlaces (i : Int) (j : Int) 1 = j - i := by
  unfold Builtin.Slice.slicePlaces
  have h1 : (1 : Int) > 0 := by omega
  simp only [h1, if_true, Int.ediv_one]
  split <;> omega
theorem slicePart_ {v : Value} {o : Option Int} {Q : Option Int → Shared → Prop} (p : IsPart v o) (h : Q o s) : wpAny (model prog w) A (Builtin.Slice.slicePartIndex v) Q E s := by
  cases p with
  | none => exact slicePart_none h
  | int i t => exact slicePart_int h
theorem sliceApplied_gen {sl : Addr} {vl vu : Value} {lo hi : Option Int} {n : Nat} {Q : Int × Int × Nat → Shared → Prop} (hs : s.heap.IsSliceOf sl vl vu .none) (pl : IsPart vl lo) (pu : IsPart vu hi)
    (h : Q (((sIx n 0 lo : Nat) : Int), 1, sIx n n hi - sIx n 0 lo) s) : wpAny (model prog w) A (Builtin.Slice.sliceApplied (.ref sl) (pure (n : Int))) Q E s := by
  obtain ⟨os, hos, hcs, hds⟩ := id hs
  unfold Builtin.Slice.sliceApplied Builtin.Slice.sliceFields
  refine wpAny_bind (wpAny_bind (wpAny_field hos hds (x := vl) rfl (wpAny_bind (wpAny_field hos hds (x := vu) rfl (wpAny_bind (wpAny_field hos hds (x := .none) rfl (wpAny_pure ?_)))))))
  refine wpAny_bind (slicePart_none ?_)
  show wpAny _ _ (if ((1 : Int) == 0) = true then _ else _) _ _ s
  rw [if_neg (by decide)]
  refine wpAny_bind (slicePart_ pl (wpAny_bind (slicePart_ pu (wpAny_bind (wpAny_pure ?_)))))
  show wpAny _ _ (match Builtin.Slice.sliceAdjust lo hi 1 (n : Int) with | (lo, hi) => pure (lo, (1 : Int), Builtin.Slice.slicePlaces lo hi 1)) _ _ s
  rw [adjust_gen lo hi n]
  show wpAny _ _ (pure (((sIx n 0 lo : Nat) : Int), (1 : Int), Builtin.Slice.slicePlaces ((sIx n 0 lo : Nat) : Int) ((sIx n n hi : Nat) : Int) 1)) _ _ s
  rw [places_gen]
  exact wpAny_pure h
theorem pick_gen (xs : Array Value) (i k : Nat) : ((List.range k).filterMap fun (m : Nat) => xs[((i : Int) + (m : Int) * 1).toNat]?).toArray = ((xs.toList.drop i).take k).toArray := by
  have e : (fun (m : Nat) => xs[((i : Int) + (m : Int) * 1).toNat]?) = fun m => xs[i + m]? := by
    funext m
    have : ((i : Int) + (m : Int) * 1).toNat = i + m := by omega
    rw [this]
  rw [e]
  have := pick_run xs i k
  rw [List.filterMap_map] at this
  have e2 : ((fun x => xs[x]?) ∘ fun x => i + x) = fun m => xs[i + m]? := rfl
  rw [e2] at this
  rw [this]

theorem getItem_tuple_cut {t sl : Addr} {items : Array Value} {vl vu : Value} {lo hi : Option Int} {Q : Value → Shared → Prop} (ht : IsTup s.heap t items) (hs : s.heap.IsSliceOf sl vl vu .none) (pl : IsPart vl lo) (pu : IsPart vu hi)
    (hw : ¬ (sIx items.size 0 lo = 0 ∧ sIx items.size items.size hi = items.size))
    (h : Q (.ref s.heap.objs.size) { s with heap := s.heap.push { cls := .type "tuple", data := .seq ((items.toList.drop (sIx items.size 0 lo)).take (sIx items.size items.size hi - sIx items.size 0 lo)).toArray } })
    (hsz : items.size ≤ sizeLine) : wpAny (model prog w) A (getItem (.ref t) (.ref sl)) Q E s := by
  have htake : sizeOk (.seq ((items.toList.drop (sIx items.size 0 lo)).take (sIx items.size items.size hi - sIx items.size 0 lo)).toArray) := by
    show ((items.toList.drop (sIx items.size 0 lo)).take (sIx items.size items.size hi - sIx items.size 0 lo)).toArray.size ≤ sizeLine
    rw [List.size_toArray, List.length_take, List.length_drop, Array.length_toList]
    omega
  have hj : sIx items.size items.size hi ≤ items.size := sIx_le _ _ (Nat.le_refl _) hi
  obtain ⟨os, hos, hcs, hds⟩ := id hs
  have hTs : s.TypeIs (.ref sl) "slice" := ⟨os, hos, hcs⟩
  unfold getItem
  try with_reducible refine wpAny_holding ?_
  first | refine wpAny_bind (wpAny_pure ?_) | skip
  refine wpAny_bind (wpAny_sequenceKey ht.typeIs (by decide) ?_)
  refine wpAny_bind (wpAny_callSpecial?_slot (name := Str.ofString "__getitem__") ht.typeIs PyProof.Rows.slot_tuple_getitem
    (wpAny_call_entry PyProof.Rows.slot_tuple_getitem ht.typeIs entry_tuple_getitem ?_ (args_tuple_getitem _ _)))
  show wpAny _ _ (Builtin.Tuple.tupleItemsOf (.ref t) >>= _) _ _ s
  refine wpAny_bind (tupleItemsOf_ ht ?_)
  refine wpAny_bind (wpAny_typeOf hTs ?_)
  rw [if_pos (by decide)]
  refine wpAny_bind (sliceApplied_gen hs pl pu ?_)
  have hno : ¬ ((((sIx items.size 0 lo : Nat) : Int) == 0 && (1 : Int) == 1 && (sIx items.size items.size hi - sIx items.size 0 lo) == items.size) = true) := by
    intro q
    rw [Bool.and_eq_true, Bool.and_eq_true] at q
    have q1 : ((sIx items.size 0 lo : Nat) : Int) = 0 := eq_of_beq q.1.1
    have q2 : sIx items.size items.size hi - sIx items.size 0 lo = items.size := eq_of_beq q.2
    exact hw ⟨by omega, by omega⟩
  show wpAny _ _ (if (((sIx items.size 0 lo : Nat) : Int) == 0 && (1 : Int) == 1 && (sIx items.size items.size hi - sIx items.size 0 lo) == items.size) = true then _ else _) _ _ s
  rw [if_neg hno, pick_gen]
  first
    | exact wpAny_bind (m := Builtin.Tuple.tupleExact _) (wpAny_newObj_type (wpAny_pure ⟨_, rfl, wpAny_pure h⟩) htake)
    | exact wpAny_bind (m := Builtin.Tuple.tupleExact _) (wpAny_newObj_type (wpAny_bind (wpAny_pure (wpAny_pure ⟨_, rfl, wpAny_pure h⟩))) htake)
    | exact wpAny_bind (wpAny_bind (m := Builtin.Tuple.tupleExact _) (wpAny_newObj_type (wpAny_pure (wpAny_pure ⟨_, rfl, wpAny_pure h⟩)) htake))
    | exact wpAny_bind (wpAny_bind (m := Builtin.Tuple.tupleExact _) (wpAny_newObj_type (wpAny_pure ⟨_, rfl, wpAny_pure h⟩) htake))
end
end HT

namespace L2
open PySem PySem.Spec PyProof.Rows

/-! ### the parts of a slice -/
abbrev TO := St → Hp → (Option Int → Hp → Prop) → Prop
/-- a slice's part (left out, or an int) -/
def PO (X : Cx) (e : Option Expr) (t : TO) : Prop :=
  ∀ (pins : List (Addr × Obj)) (s : Shared) (σ : St) (H : Hp) (Q : Option Int → Hp → Prop), Inv X pins σ H s → t σ H Q →
    wpAny (model X.prog X.w) X.A (evalPart e X.env) (fun u s' => ∃ o H', Inv X pins σ H' s' ∧ IsPart u o ∧ Q o H') X.xe s
def tNoPart : TO := fun _ H Q => Q none H
def tPart (t : TE) : TO := fun σ H Q => t σ H fun x H1 => ∃ i, x = .int i ∧ Q (some i) H1

theorem intsAre_of {ns : List Int} : ∀ {us : List Value}, Vals (ns.map V.int) us → IntsAre us ns := by
  induction ns with
  | nil => intro us r; rw [List.map_nil] at r; cases r; exact .nil
  | cons n ns ih =>
    intro us r
    rw [List.map_cons] at r
    cases r with
    | cons r1 r2 =>
      obtain ⟨t, e⟩ := r1
      subst e
      exact .cons n t (ih r2)

section
variable {X : Cx} {e : Expr} {te : TE} {lo hi : Option Expr} {tl th : TO} {pos p2 : Pos}

theorem po_none : PO X none tNoPart := by
  intro pins s σ H Q I h
  rw [evalPart_none]
  exact wpAny_pure ⟨none, H, I, .none, h⟩
theorem po_some (h : PE X e te) : PO X (some e) (tPart te) := by
  intro pins s σ H Q I hw
  rw [evalPart_some]
  refine thn (h pins s σ H _ I hw) fun u s1 ⟨x, H1, I1, r1, q1⟩ => ?_
  obtain ⟨i, rfl, q⟩ := q1
  obtain ⟨t, rfl⟩ := r1
  exact ⟨some i, H1, I1, .int i t, q⟩

/-- what a slice of a value is, by values: the slice object stands at sl -/
def SlR (X : Cx) (r : V → Option Int → Option Int → Hp → VK → Prop) : Prop :=
  ∀ (pins : List (Addr × Obj)) (s : Shared) (σ : St) (H : Hp) (x : V) (v vl vu : Value) (lo hi : Option Int) (sl : Addr) (Q : VK), Inv X pins σ H s → RelV x v → s.heap.IsSliceOf sl vl vu .none → IsPart vl lo → IsPart vu hi → r x lo hi H Q →
    ∃ T id, typeLookup (.type T) "__getitem__" = pure (some (.builtin id)) ∧ s.TypeIs v T ∧ wpAny (model X.prog X.w) X.A (getItem v (.ref sl)) (EP X pins σ Q) X.xe s
theorem SlR.or {r r' : V → Option Int → Option Int → Hp → VK → Prop} (h : SlR X r) (h' : SlR X r') : SlR X (fun x lo hi H Q => r x lo hi H Q ∨ r' x lo hi H Q) := by
  intro pins s σ H x v vl vu lo hi sl Q I rx hs pl pu q
  rcases q with q | q
  · exact h pins s σ H x v vl vu lo hi sl Q I rx hs pl pu q
  · exact h' pins s σ H x v vl vu lo hi sl Q I rx hs pl pu q
def tSl (r : V → Option Int → Option Int → Hp → VK → Prop) (te : TE) (tl th : TO) : TE := fun σ H Q => te σ H fun x H1 => tl σ H1 fun l H2 => th σ H2 fun u H3 => r x l u H3 Q
/-- a[lo:hi], any a -/
theorem pe_slice {r : V → Option Int → Option Int → Hp → VK → Prop} (hr : SlR X r) (he : PE X e te) (hl : PO X lo tl) (hu : PO X hi th) : PE X (.Subscript e (.Slice lo hi none p2) pos) (tSl r te tl th) := by
  intro pins s σ H Q I h
  refine Subscript_ (thn (he pins s σ H _ I h) fun v s1 ⟨x, H1, I1, r1, q1⟩ => ?_)
  refine wpAny_Slice (thn (hl pins s1 σ H1 _ I1 q1) fun vl s2 ⟨l, H2, I2, pl, q2⟩ => thn (hu pins s2 σ H2 _ I2 q2) fun vu s3 ⟨u, H3, I3, pu, q3⟩ => ?_)
  rw [evalPart_none]
  refine wpAny_pure ?_
  have I4 : Inv X pins σ H3 { s3 with heap := s3.heap.push { cls := .type "slice", data := .fields #[vl, vu, .none] } } := I3.kept (t' := s3.toks) fun b ob q => Heap.get?_push_of_some _ q
  obtain ⟨T, id, hT, ht, hg⟩ := hr pins { s3 with heap := s3.heap.push { cls := .type "slice", data := .fields #[vl, vu, .none] } } σ H3 x v vl vu l u s3.heap.objs.size Q I4 r1 (Heap.IsSliceOf.new ..) pl pu q3
  show wpAny (model X.prog X.w) X.A (subscriptTail e (.Slice lo hi none p2) v (.ref s3.heap.objs.size)) (EP X pins σ Q) X.xe { s3 with heap := s3.heap.push { cls := .type "slice", data := .fields #[vl, vu, .none] } }
  exact tail_any (ops := [.ref s3.heap.objs.size, v]) ht hT hg (by with_unfolding_all rfl)

/-- the items of xs[lo:hi] -/
def cutV (xs : List V) (lo hi : Option Int) : List V := (xs.drop (HT.sIx xs.length 0 lo)).take (HT.sIx xs.length xs.length hi - HT.sIx xs.length 0 lo)
theorem cutV_length (xs : List V) (lo hi : Option Int) : (cutV xs lo hi).length ≤ xs.length := by
  unfold cutV
  rw [List.length_take, List.length_drop]
  omega
/-- t[lo:hi], not the whole of it (the whole would be t itself) -/
def rSlT (K : PySem.W.Frag) : V → Option Int → Option Int → Hp → VK → Prop := fun x lo hi H Q => ∃ a xs, x = .ref a ∧ SqT K H a xs ∧
  ¬ (HT.sIx xs.length 0 lo = 0 ∧ HT.sIx xs.length xs.length hi = xs.length) ∧ ∀ p, H p = none → Q (.ref p) (upd H p (.tup (cutV xs lo hi)))
theorem sl_tup : SlR X (rSlT X.K) := by
  intro pins s σ H x v vl vu lo hi sl Q I rx hs pl pu h
  obtain ⟨a, xs, rfl, hx, hw, q⟩ := h
  cases rx
  obtain ⟨its, r, ht, hz⟩ := I.tuple hx
  have hlen : its.toArray.size = xs.length := by rw [List.size_toArray]; exact r.length.symm
  refine ⟨"tuple", _, PyProof.Rows.slot_tuple_getitem.lookup, ht.typeIs, ?_⟩
  refine HT.getItem_tuple_cut ht hs pl pu (by rw [hlen]; exact hw) ?_ (by rw [hlen]; exact hz)
  rw [hlen]
  refine ⟨.ref s.heap.objs.size, _, I.laid (t' := s.toks) (o := .tup (cutV xs lo hi)) (fun b ob q => Heap.get?_push_of_some _ q) (Nat.le_refl _) ?_, rfl, q _ (I.hok.fresh (Nat.le_refl _))⟩
  exact ⟨Nat.le_trans (cutV_length xs lo hi) hz, _, (r.drop (HT.sIx xs.length 0 lo)).take (HT.sIx xs.length xs.length hi - HT.sIx xs.length 0 lo), IsTup.new _ _⟩

/-! ### t < u, t + u -/
def rLtT (K : PySem.W.Frag) : R2 := fun x y H Q => ∃ a b ns ms, x = .ref a ∧ y = .ref b ∧ SqT K H a (ns.map V.int) ∧ SqT K H b (ms.map V.int) ∧ Q (.bl (HT.lexLt ns ms)) H
theorem op_ltT (hu : X.A.units < cLine) : OpR X (compareOp .Lt) (rLtT X.K) := by
  intro pins s σ H x y v u Q I rx ry h
  obtain ⟨a, b, ns, ms, rfl, rfl, ha, hb, q⟩ := h
  cases rx
  cases ry
  obtain ⟨its, r1, p1, _⟩ := I.tuple ha
  obtain ⟨its2, r2, p2, _⟩ := I.tuple hb
  have i1 : IntsAre its.toArray.toList ns := intsAre_of r1
  have i2 : IntsAre its2.toArray.toList ms := intsAre_of r2
  exact HT.lt_tupInts p1 p2 i1 i2 hu ⟨.bl (HT.lexLt ns ms), H, I, rfl, q⟩
/-- t + u, t not empty: u empty gives t itself -/
def rCatT (K : PySem.W.Frag) : R2 := fun x y H Q => ∃ a b xs ys, x = .ref a ∧ y = .ref b ∧ SqT K H a xs ∧ SqT K H b ys ∧ xs ≠ [] ∧ xs.length + ys.length ≤ sizeLine ∧
  (ys = [] → Q (.ref a) H) ∧ (ys ≠ [] → ∀ p, H p = none → Q (.ref p) (upd H p (.tup (xs ++ ys))))
theorem Vals.nil_iff {xs : List V} {us : List Value} (r : Vals xs us) : us = [] ↔ xs = [] := by
  cases r with
  | nil => simp
  | cons _ _ => simp
theorem op_catT : OpR X (binaryOp .Add) (rCatT X.K) := by
  intro pins s σ H x y v u Q I rx ry h
  obtain ⟨a, b, xs, ys, rfl, rfl, ha, hb, hx, hz, q1, q2⟩ := h
  cases rx
  cases ry
  obtain ⟨its, r1, p1, _⟩ := I.tuple ha
  obtain ⟨its2, r2, p2, _⟩ := I.tuple hb
  refine HT.cat_tup p1 p2 (fun z => hx (r1.nil_iff.mp z)) (fun z => ⟨.ref a, H, I, rfl, q1 (r2.nil_iff.mp z)⟩) (fun z => ?_) (by rw [← r1.length, ← r2.length]; exact hz)
  refine ⟨.ref s.heap.objs.size, _, I.laid (t' := s.toks) (o := .tup (xs ++ ys)) (fun b ob q => Heap.get?_push_of_some _ q) (Nat.le_refl _) ?_, rfl, q2 (fun w => z (r2.nil_iff.mpr w)) _ (I.hok.fresh (Nat.le_refl _))⟩
  exact ⟨by rw [List.length_append]; exact hz, _, r1.append r2, IsTup.new _ _⟩
/-- tuple(t) -/
theorem call_tupleT : CallR X (.type "tuple") (fun xs H Q => ∃ a ys, xs = [.ref a] ∧ SqT X.K H a ys ∧ Q (.ref a) H) := by
  intro pins s σ H xs us Q I r h
  obtain ⟨a, ys, rfl, ha, q⟩ := h
  obtain ⟨u, rfl, ru⟩ := vals1 r
  cases ru
  obtain ⟨its, _, p1, _⟩ := I.tuple ha
  exact call_tuple_same (items := its.toArray) p1 ⟨.ref a, H, I, rfl, q⟩
end
end L2

namespace L2
open PySem PySem.Spec PyProof.Rows

/-! ### places -/
/-- the place that an index of any sign means -/
def ixN (n : Nat) (i : Int) : Option Nat := if 0 ≤ i then (if i < n then some i.toNat else none) else if -(n : Int) ≤ i then some (i + n).toNat else none
def atI {α : Type} (xs : List α) (i : Int) : Option α := (ixN xs.length i).bind fun j => xs[j]?
theorem ixN_seq {n : Nat} {i : Int} {j : Nat} (h : ixN n i = some j) : seqIndex? i n = some j ∧ j < n ∧ -(n : Int) ≤ i ∧ i < n := by
  unfold ixN at h
  by_cases h0 : 0 ≤ i
  · rw [if_pos h0] at h
    by_cases h1 : i < n
    · rw [if_pos h1] at h
      have e : i.toNat = j := Option.some.inj h
      exact ⟨by rw [seqIndex_of h0 h1, e], by omega, by omega, h1⟩
    · rw [if_neg h1] at h; cases h
  · rw [if_neg h0] at h
    by_cases h1 : -(n : Int) ≤ i
    · rw [if_pos h1] at h
      have e : (i + n).toNat = j := Option.some.inj h
      exact ⟨by rw [seqIndex_neg (by omega) h1, e], by omega, h1, by omega⟩
    · rw [if_neg h1] at h; cases h
theorem atI_get {α : Type} {xs : List α} {i : Int} {v : α} (h : atI xs i = some v) : ∃ j, seqIndex? i xs.length = some j ∧ xs[j]? = some v ∧ j < xs.length ∧ -(xs.length : Int) ≤ i ∧ i < xs.length := by
  unfold atI at h
  cases e : ixN xs.length i with
  | none => rw [e] at h; cases h
  | some j =>
    rw [e] at h
    obtain ⟨h1, h2, h3, h4⟩ := ixN_seq e
    exact ⟨j, h1, h, h2, h3, h4⟩
theorem atI_nat {α : Type} {xs : List α} {j : Nat} {v : α} (h : xs[j]? = some v) : atI xs (j : Int) = some v := by
  have hj : j < xs.length := (List.getElem?_eq_some_iff.mp h).1
  have e : ixN xs.length (j : Int) = some j := by
    unfold ixN
    rw [if_pos (by omega), if_pos (by omega)]; simp
  unfold atI; rw [e]; exact h
theorem atI_last {α : Type} (xs : List α) (v : α) : atI (xs ++ [v]) (-1) = some v := by
  have hl : (xs ++ [v]).length = xs.length + 1 := by simp
  have e : ixN (xs ++ [v]).length (-1) = some xs.length := by
    unfold ixN
    rw [hl, if_neg (by decide), if_pos (by omega)]
    congr 1
    omega
  unfold atI
  rw [e]
  show (xs ++ [v])[xs.length]? = some v
  simp

/-! ### what may be subscripted -/
/-- what stands as an index of a plain subscript -/
def PlainIx (b : Expr) : Prop := ∀ o i, subscripted b false o i = operate [o, i] (getItem o i)
/-- a subscript by values -/
def IxR (X : Cx) (r : R2) : Prop :=
  ∀ (value slice : Expr) (pins : List (Addr × Obj)) (s : Shared) (σ : St) (H : Hp) (x y : V) (v u : Value) (Q : VK), Inv X pins σ H s → RelV x v → RelV y u → r x y H Q →
    subscripted slice false v u = operate [v, u] (getItem v u) → wpAny (model X.prog X.w) X.A (subscriptTail value slice v u) (EP X pins σ Q) X.xe s
/-- a call of a builtin's method by values: the receiver, the arguments -/
def MtR (X : Cx) (id : String) (r : V → List V → Hp → VK → Prop) : Prop :=
  ∀ (pins : List (Addr × Obj)) (s : Shared) (σ : St) (H : Hp) (x : V) (xs : List V) (v : Value) (us : List Value) (Q : VK), Inv X pins σ H s → RelV x v → Vals xs us → r x xs H Q →
    wpAny (model X.prog X.w) X.A (call (.builtin id) (v :: us)) (EP X pins σ Q) X.xe s
section
variable {X : Cx} {a b : Expr} {ta tb : TE} {pos : Pos}
theorem IxR.or {r r' : R2} (h : IxR X r) (h' : IxR X r') : IxR X (fun x y H Q => r x y H Q ∨ r' x y H Q) := by
  intro value slice pins s σ H x y v u Q I rx ry q hs
  rcases q with q | q
  · exact h value slice pins s σ H x y v u Q I rx ry q hs
  · exact h' value slice pins s σ H x y v u Q I rx ry q hs
theorem MtR.or {id : String} {r r' : V → List V → Hp → VK → Prop} (h : MtR X id r) (h' : MtR X id r') : MtR X id (fun x xs H Q => r x xs H Q ∨ r' x xs H Q) := by
  intro pins s σ H x xs v us Q I rx rs q
  rcases q with q | q
  · exact h pins s σ H x xs v us Q I rx rs q
  · exact h' pins s σ H x xs v us Q I rx rs q
/-- a[b] -/
theorem pe_ix {r : R2} (hr : IxR X r) (ha : PE X a ta) (hb : PE X b tb) (hs : PlainIx b) : PE X (.Subscript a b pos) (tOp r ta tb) := by
  intro pins s σ H Q I h
  exact Subscript_ (binT ha hb I h fun v u s2 x y H2 I2 rx ry q => hr a b pins s2 σ H2 x y v u Q I2 rx ry q (hs _ _))

def rIxL (K : PySem.W.Frag) : R2 := fun x y H Q => ∃ p xs i v, x = .ref p ∧ y = .int i ∧ SqL K H p xs ∧ atI xs i = some v ∧ Q v H
def rIxT (K : PySem.W.Frag) : R2 := fun x y H Q => ∃ p xs i v, x = .ref p ∧ y = .int i ∧ SqT K H p xs ∧ atI xs i = some v ∧ Q v H
def rIxS : R2 := fun x y H Q => ∃ z i c, x = .str z ∧ y = .int i ∧ z.length ≤ sizeLine ∧ atI z.cps.toList i = some c ∧ Q (.str ⟨#[c]⟩) H
theorem ix_list : IxR X (rIxL X.K) := by
  intro value slice pins s σ H x y v u Q I rx ry h hs
  obtain ⟨p, xs, i, z, rfl, rfl, hq, he, q⟩ := h
  cases rx
  obtain ⟨t, rfl⟩ := ry
  obtain ⟨its, r, pl, hz⟩ := I.list hq
  obtain ⟨j, h1, h2, h3, h4, h5⟩ := atI_get he
  obtain ⟨w, ew, rw'⟩ := r.get h2
  have hl := r.length
  have hn := line63
  have fin : EP X pins σ Q w s := ⟨z, H, I, rw', q⟩
  by_cases h0 : 0 ≤ i
  · have hj : i.toNat = j := by
      rw [seqIndex_of h0 h5] at h1
      exact Option.some.inj h1
    exact item_listR pl.isList h0 (by omega) (by rw [hj]; simpa using ew) fin hs
  · have hj : (i + (its.toArray.size : Int)).toNat = j := by
      rw [seqIndex_neg (by omega) h4] at h1
      rw [List.size_toArray, ← hl]
      exact Option.some.inj h1
    exact subscriptTail_builtinR (x := w) pl.isList.typeIs slot_list_getitem.lookup
      (wpAny_getItem_list_neg (Q := fun r s' => r = w ∧ EP X pins σ Q r s') pl.isList (by omega) (by rw [List.size_toArray] <;> omega) (by omega) (by rw [hj]; simpa using ew) ⟨rfl, fin⟩) hs
theorem ix_tup : IxR X (rIxT X.K) := by
  intro value slice pins s σ H x y v u Q I rx ry h hs
  obtain ⟨p, xs, i, z, rfl, rfl, hq, he, q⟩ := h
  cases rx
  obtain ⟨t, rfl⟩ := ry
  obtain ⟨its, r, pl, hz⟩ := I.tuple hq
  obtain ⟨j, h1, h2, h3, h4, h5⟩ := atI_get he
  obtain ⟨w, ew, rw'⟩ := r.get h2
  have hl := r.length
  have hn := line63
  have fin : EP X pins σ Q w s := ⟨z, H, I, rw', q⟩
  exact subscriptTail_builtinR (x := w) pl.typeIs slot_tuple_getitem.lookup
    (getItem_tuple (j := j) (Q := fun r s' => r = w ∧ EP X pins σ Q r s') pl (by omega) (by omega) (by rw [List.size_toArray, ← hl]; exact h1) (by simpa using ew) ⟨rfl, fin⟩) hs
theorem ix_str : IxR X rIxS := by
  intro value slice pins s σ H x y v u Q I rx ry h hs
  obtain ⟨z, i, c, rfl, rfl, hz, he, q⟩ := h
  obtain ⟨t, rfl⟩ := rx
  obtain ⟨t', rfl⟩ := ry
  obtain ⟨j, h1, h2, h3, h4, h5⟩ := atI_get he
  have hl : z.cps.toList.length = z.length := by simp [Str.length]
  rw [hl] at h1 h4 h5
  have hn := line63
  exact tail_any (typeIs_str s z t) slot_str_getitem.lookup (getItem_str (c := c) (by
    have e1 : decide (i < -(2 ^ 63 : Int)) = false := decide_eq_false (by omega)
    have e2 : decide (i ≥ 2 ^ 63) = false := decide_eq_false (by omega)
    rw [e1, e2, Bool.or_false]) (by rw [h1]; simpa using h2) ⟨.str ⟨#[c]⟩, H, I.tok _, ⟨_, rfl⟩, q⟩) hs
/-- list, tuple or str -/
def rIx (K : PySem.W.Frag) : R2 := fun x y H Q => rIxL K x y H Q ∨ rIxT K x y H Q ∨ rIxS x y H Q
theorem ix_seq : IxR X (rIx X.K) := ix_list.or (ix_tup.or ix_str)

/-! ### xs[i] = v, any sign -/
/-- the list's object behind a store -/
theorem mapSeq_set (its : List Value) (n j : Nat) (u : Value) : Obj.mapSeq (·.setIfInBounds j u) { cls := .type "list", data := .seq its.toArray n } = { cls := .type "list", data := .seq (its.set j u).toArray n } := by
  simp [Obj.mapSeq]
theorem Inv.lst {pins : List (Addr × Obj)} {σ : St} {H : Hp} {s : Shared} {p : Addr} {xs : List V} (I : Inv X pins σ H s) (h : H p = some (.lst xs)) :
    ∃ (its : List Value) (n : Nat), Vals xs its ∧ s.heap.get? p = some { cls := .type "list", data := .seq its.toArray n } ∧ xs.length ≤ sizeLine := by
  obtain ⟨z, its, n, r, e⟩ := I.hok p _ h
  exact ⟨its, n, r, e, z⟩
/-- the list at p is written by an update of its object -/
theorem Inv.lstUpd {pins : List (Addr × Obj)} {σ : St} {H : Hp} {s : Shared} {p : Addr} {xs ys : List V} {its its' : List Value} {n n' : Nat} {f : Obj → Obj} (I : Inv X pins σ H s) (h : H p = some (.lst xs))
    (ho : s.heap.get? p = some { cls := .type "list", data := .seq its.toArray n }) (hf : f { cls := .type "list", data := .seq its.toArray n } = { cls := .type "list", data := .seq its'.toArray n' }) (r : Vals ys its') (hz : ys.length ≤ sizeLine) (t : Nat) :
    Inv X pins σ (upd H p (.lst ys)) { s with heap := s.heap.update p f, toks := t } := by
  have e : (s.heap.update p f).get? p = some { cls := .type "list", data := .seq its'.toArray n' } := by
    rw [Heap.get?_update_self f ho (by rw [hf] <;> rfl), hf]
  refine I.write (x := p) (e := p) (by rw [h]; trivial) (.inl rfl) (fun b u hb q => (Heap.get?_update_other _ _ (Ne.symm hb)).trans q) ⟨_, e⟩ ?_
  exact ⟨hz, its', n', r, e⟩
def rSetL : V → V → V → Hp → (Hp → Prop) → Prop := fun o i v H Q => ∃ p xs k j, o = .ref p ∧ i = .int k ∧ H p = some (.lst xs) ∧ ixN xs.length k = some j ∧ Q (upd H p (.lst (xs.set j v)))
theorem set_list : PSet X rSetL := by
  intro pins s σ H o i v ov iv u Q I ro ri rv h
  obtain ⟨p, xs, k, j, rfl, rfl, hp, hj, q⟩ := h
  cases ro
  obtain ⟨t, rfl⟩ := ri
  obtain ⟨its, n, r, ho, hz⟩ := I.lst hp
  obtain ⟨h1, h2, h3, h4⟩ := ixN_seq hj
  have hl := r.length
  have hn := line63
  have I' : Inv X pins σ (upd H p (.lst (xs.set j v))) { s with heap := s.heap.update p (Obj.mapSeq (·.setIfInBounds j u)) } :=
    I.lstUpd hp ho (mapSeq_set its n j u) (r.set rv j) (by rw [List.length_set]; exact hz) s.toks
  by_cases h0 : 0 ≤ k
  · have hk : k.toNat = j := by
      rw [seqIndex_of h0 h4] at h1
      exact Option.some.inj h1
    exact PySem.W.ki_setAt ho h0 (by omega) (by rw [List.size_toArray, ← hl]; exact h4) (by rw [hk]; exact ⟨_, I', q⟩)
  · have hk : (k + (its.toArray.size : Int)).toNat = j := by
      rw [seqIndex_neg (by omega) h3] at h1
      rw [List.size_toArray, ← hl]
      exact Option.some.inj h1
    exact PySem.W.ki_setBack ho (by omega) (by rw [List.size_toArray, ← hl]; exact h3) (by omega) (by rw [hk]; exact ⟨_, I', q⟩)

/-! ### slices -/
theorem slice_bounds (lo hi : Option Int) (n : Nat) : (sliceBounds lo hi none n).1 = ((HT.sIx n 0 lo : Nat) : Int) ∧ (sliceBounds lo hi none n).2.1 = ((HT.sIx n n hi : Nat) : Int) ∧ (sliceBounds lo hi none n).2.2 = 1 := by
  refine ⟨?_, ?_, rfl⟩
  · cases lo with
    | none => simp [sliceBounds, HT.sIx]
    | some i =>
      simp only [sliceBounds, HT.sIx, Option.getD_none, show (1 : Int) > 0 by decide, if_true]
      by_cases h : i < 0
      · simp only [h, if_true] <;> omega
      · simp only [h, if_false] <;> omega
  · cases hi with
    | none => simp [sliceBounds, HT.sIx]
    | some i =>
      simp only [sliceBounds, HT.sIx, Option.getD_none, show (1 : Int) > 0 by decide, if_true]
      by_cases h : i < 0
      · simp only [h, if_true] <;> omega
      · simp only [h, if_false] <;> omega
theorem slicePick_cut (its : List Value) (lo hi : Option Int) : slicePick its.toArray lo hi none = ((its.drop (HT.sIx its.length 0 lo)).take (HT.sIx its.length its.length hi - HT.sIx its.length 0 lo)).toArray := by
  obtain ⟨h1, h2, h3⟩ := slice_bounds lo hi its.toArray.size
  unfold slicePick
  rw [h1, h2, h3]
  simp only [sliceRange_one, pick_run, List.size_toArray] <;> rfl
/-- xs[lo:hi] of a list: a new list -/
def rSlL (K : PySem.W.Frag) : V → Option Int → Option Int → Hp → VK → Prop := fun x lo hi H Q => ∃ a xs, x = .ref a ∧ SqL K H a xs ∧ ∀ p, H p = none → Q (.ref p) (upd H p (.lst (cutV xs lo hi)))
theorem sl_list : SlR X (rSlL X.K) := by
  intro pins s σ H x v vl vu lo hi sl Q I rx hs pl pu h
  obtain ⟨a, xs, rfl, hx, q⟩ := h
  cases rx
  obtain ⟨its, r, ht, hz⟩ := I.list hx
  have hlen := r.length
  refine ⟨"list", _, slot_list_getitem.lookup, ht.isList.typeIs, ?_⟩
  refine wpAny_getItem_list_slice ht.isList hs pl pu .none (by simp) ?_ (by rw [List.size_toArray] <;> omega)
  rw [slicePick_cut, ← hlen]
  refine ⟨.ref s.heap.objs.size, _, I.laid (t' := s.toks) (o := .lst (cutV xs lo hi)) (fun b ob q => Heap.get?_push_of_some _ q) (Nat.le_refl _) ?_, rfl, q _ (I.hok.fresh (Nat.le_refl _))⟩
  exact ⟨Nat.le_trans (cutV_length xs lo hi) hz, _, 0, (r.drop (HT.sIx xs.length 0 lo)).take (HT.sIx xs.length xs.length hi - HT.sIx xs.length 0 lo), Heap.get?_push_size _ rfl⟩

/-! ### in, not in: flat items -/
def flatV : V → Bool
  | .non => true
  | .bl _ => true
  | .int _ => true
  | .str _ => true
  | _ => false
/-- == of flat values -/
def eqV : V → V → Bool
  | .non, .non => true
  | .bl a, .bl b => a == b
  | .bl a, .int b => (if a then 1 else 0) == b
  | .int a, .bl b => a == (if b then 1 else 0)
  | .int a, .int b => a == b
  | .str a, .str b => a == b
  | _, _ => false
theorem eqAt_V {A : Around} {s : Shared} {y x : V} {u v : Value} (ry : RelV y u) (rx : RelV x v) (fy : flatV y = true) (fx : flatV x = true) : SeqAt.EqAt A s u v (eqV y x) := by
  cases y with
  | non =>
    cases ry
    cases x with
    | non => cases rx; exact SeqAt.EqAt.same _
    | bl b => cases rx; exact SeqAt.EqAt.none_bool b
    | int b => obtain ⟨t, rfl⟩ := rx; exact SeqAt.EqAt.none_int b t
    | str b => obtain ⟨t, rfl⟩ := rx; exact SeqAt.EqAt.none_str b t
    | _ => exact absurd (show false = true from fx) Bool.false_ne_true
  | bl a =>
    cases ry
    cases x with
    | non => cases rx; exact SeqAt.EqAt.bool_none a
    | bl b => cases rx; exact SeqAt.EqAt.bool_bool a b
    | int b => obtain ⟨t, rfl⟩ := rx; exact SeqAt.EqAt.bool_int a b t
    | str b => obtain ⟨t, rfl⟩ := rx; exact SeqAt.EqAt.bool_str a b t
    | _ => exact absurd (show false = true from fx) Bool.false_ne_true
  | int a =>
    obtain ⟨t', rfl⟩ := ry
    cases x with
    | non => cases rx; exact SeqAt.EqAt.int_none a t'
    | bl b => cases rx; exact SeqAt.EqAt.int_bool a t' b
    | int b => obtain ⟨t, rfl⟩ := rx; exact SeqAt.EqAt.int_int a t' b t
    | str b => obtain ⟨t, rfl⟩ := rx; exact SeqAt.EqAt.int_str a t' b t
    | _ => exact absurd (show false = true from fx) Bool.false_ne_true
  | str a =>
    obtain ⟨t', rfl⟩ := ry
    cases x with
    | non => cases rx; exact SeqAt.EqAt.str_none a t'
    | bl b => cases rx; exact SeqAt.EqAt.str_bool a t' b
    | int b => obtain ⟨t, rfl⟩ := rx; exact SeqAt.EqAt.str_int a t' b t
    | str b => obtain ⟨t, rfl⟩ := rx; exact SeqAt.EqAt.str_str a t' b t
    | _ => exact absurd (show false = true from fx) Bool.false_ne_true
  | _ => exact absurd (show false = true from fy) Bool.false_ne_true
/-- the items' answers, read off the values (a value's own answer does not lean on its token) -/
def eqU (x : V) (u : Value) : Bool := match u with
  | .none => eqV .non x
  | .bool b => eqV (.bl b) x
  | .int i _ => eqV (.int i) x
  | .str z _ => eqV (.str z) x
  | _ => false
theorem eqU_of {x y : V} {u : Value} (r : RelV y u) (f : flatV y = true) : eqU x u = eqV y x := by
  cases y with
  | non => cases r; rfl
  | bl b => cases r; rfl
  | int i => obtain ⟨t, rfl⟩ := r; rfl
  | str z => obtain ⟨t, rfl⟩ := r; rfl
  | _ => exact absurd (show false = true from f) Bool.false_ne_true
theorem any_eqU {x : V} : ∀ {xs : List V} {us : List Value}, Vals xs us → xs.all flatV = true → us.any (eqU x) = xs.any fun y => eqV y x
  | _, _, .nil, _ => rfl
  | y :: xs, u :: us, .cons r t, f => by
    rw [List.all_cons, Bool.and_eq_true] at f
    rw [List.any_cons, List.any_cons, eqU_of r f.1, any_eqU t f.2]
theorem mem_eqAt {A : Around} {s : Shared} {x : V} {v : Value} (rx : RelV x v) (fx : flatV x = true) : ∀ {xs : List V} {us : List Value}, Vals xs us → xs.all flatV = true → ∀ u ∈ us, SeqAt.EqAt A s u v (eqU x u)
  | _, _, .nil, _ => fun u hu => by cases hu
  | y :: xs, u :: us, .cons r t, f => fun u' hu => by
    rw [List.all_cons, Bool.and_eq_true] at f
    rcases List.mem_cons.mp hu with rfl | hu
    · rw [eqU_of r f.1]; exact eqAt_V r rx f.1 fx
    · exact mem_eqAt rx fx t f.2 u' hu
def inV (x : V) (xs : List V) : Bool := xs.any fun y => eqV y x
/-- x in a list or tuple of flat items -/
def rIn (K : PySem.W.Frag) (neg : Bool) : R2 := fun x y H Q => ∃ p xs, y = .ref p ∧ (SqL K H p xs ∨ SqT K H p xs) ∧ flatV x = true ∧ xs.all flatV = true ∧ Q (.bl (if neg then !inV x xs else inV x xs)) H
theorem op_in_seq : OpR X (compareOp .In) (rIn X.K false) := by
  intro pins s σ H x y v u Q I rx ry h
  obtain ⟨p, xs, rfl, hq, fx, fs, q⟩ := h
  cases ry
  rcases hq with hq | hq
  · obtain ⟨its, r, pl, hz⟩ := I.list hq
    refine SeqAt.in_listAt (eqU x) pl.isList (fun w hw => mem_eqAt rx fx r fs w (by simpa using hw)) ⟨.bl _, H, I, rfl, ?_⟩
    rw [show its.toArray.any (eqU x) = its.any (eqU x) by simp, any_eqU r fs]
    exact q
  · obtain ⟨its, r, pl, hz⟩ := I.tuple hq
    refine SeqAt.in_tupleAt (eqU x) pl (fun w hw => mem_eqAt rx fx r fs w (by simpa using hw)) ⟨.bl _, H, I, rfl, ?_⟩
    rw [show its.toArray.any (eqU x) = its.any (eqU x) by simp, any_eqU r fs]
    exact q
theorem op_notIn_seq : OpR X (compareOp .NotIn) (rIn X.K true) := by
  intro pins s σ H x y v u Q I rx ry h
  obtain ⟨p, xs, rfl, hq, fx, fs, q⟩ := h
  cases ry
  rcases hq with hq | hq
  · obtain ⟨its, r, pl, hz⟩ := I.list hq
    refine SeqAt.notIn_listAt (eqU x) pl.isList (fun w hw => mem_eqAt rx fx r fs w (by simpa using hw)) ⟨.bl _, H, I, rfl, ?_⟩
    rw [show its.toArray.any (eqU x) = its.any (eqU x) by simp, any_eqU r fs]
    exact q
  · obtain ⟨its, r, pl, hz⟩ := I.tuple hq
    refine SeqAt.notIn_tupleAt (eqU x) pl (fun w hw => mem_eqAt rx fx r fs w (by simpa using hw)) ⟨.bl _, H, I, rfl, ?_⟩
    rw [show its.toArray.any (eqU x) = its.any (eqU x) by simp, any_eqU r fs]
    exact q
theorem op_notIn_str : OpR X (compareOp .NotIn) (fun x y H Q => ∃ i j, x = .str i ∧ y = .str j ∧ Q (.bl (!(!(Builtin.Str.occurrences j i 0 j.length 1).isEmpty))) H) := by
  intro pins s σ H x y v u Q I rx ry h
  obtain ⟨i, j, rfl, rfl, q⟩ := h
  obtain ⟨t, rfl⟩ := rx
  obtain ⟨t', rfl⟩ := ry
  exact notIn_str ⟨.bl _, H, I, rfl, q⟩

/-! ### len, list(x), tuple(x) of any list or tuple that is read -/
theorem call_len_seq : CallR X (.builtin "len") (fun xs H Q => ∃ p ys, xs = [.ref p] ∧ (SqL X.K H p ys ∨ SqT X.K H p ys) ∧ Q (.int ys.length) H) := by
  intro pins s σ H xs us Q I r h
  obtain ⟨p, ys, rfl, hq, q⟩ := h
  obtain ⟨u, rfl, rx⟩ := vals1 r
  cases rx
  have hn := line63
  rcases hq with hq | hq
  · obtain ⟨its, r', pl, hz⟩ := I.list hq
    have hlen := r'.length
    exact Calls.call_len_list pl.isList (by simp only [List.size_toArray] <;> omega) ⟨.int ys.length, H, I.tok _, ⟨s.toks + 1, by rw [List.size_toArray, hlen]⟩, q⟩
  · obtain ⟨its, r', pl, hz⟩ := I.tuple hq
    have hlen := r'.length
    exact len_tuple pl (by simp only [List.size_toArray] <;> omega) ⟨.int ys.length, H, I.tok _, ⟨s.toks + 1, by rw [List.size_toArray, hlen]⟩, q⟩
theorem call_len_str : CallR X (.builtin "len") (fun xs H Q => ∃ z, xs = [.str z] ∧ z.length ≤ sizeLine ∧ Q (.int z.length) H) := by
  intro pins s σ H xs us Q I r h
  obtain ⟨z, rfl, hz, q⟩ := h
  obtain ⟨u, rfl, t, rfl⟩ := vals1 r
  have hn := line63
  exact len_str (by omega) ⟨.int z.length, H, I.tok _, ⟨_, rfl⟩, q⟩
theorem CallR.or {f : Value} {r r' : List V → Hp → VK → Prop} (h : CallR X f r) (h' : CallR X f r') : CallR X f (fun xs H Q => r xs H Q ∨ r' xs H Q) := by
  intro pins s σ H xs us Q I rs q
  rcases q with q | q
  · exact h pins s σ H xs us Q I rs q
  · exact h' pins s σ H xs us Q I rs q
theorem call_list_of : CallR X (.type "list") (fun xs H Q => ∃ p ys, xs = [.ref p] ∧ (SqL X.K H p ys ∨ SqT X.K H p ys) ∧ ∀ l, H l = none → Q (.ref l) (upd H l (.lst ys))) := by
  intro pins s σ H xs us Q I r h
  obtain ⟨p, ys, rfl, hq, q⟩ := h
  obtain ⟨u, rfl, rx⟩ := vals1 r
  cases rx
  have fin : ∀ (its : List Value), Vals ys its → ys.length ≤ sizeLine → ∀ (h' : Heap) (c' : Nat), (∀ b o', s.heap.get? b = some o' → h'.get? b = some o') →
      h'.get? s.heap.objs.size = some { cls := .type "list", dict := none, data := .seq its.toArray c', slots := #[] } → EP X pins σ Q (.ref s.heap.objs.size) { s with heap := h' } := fun its r' hz h' c' kp e =>
    ⟨.ref s.heap.objs.size, _, I.laid (t' := s.toks) kp (Nat.le_refl _) (show ObjOk X.prog X.w _ h' _ (.lst ys) from ⟨hz, its, c', r', e⟩), rfl, q _ (I.hok.fresh (Nat.le_refl _))⟩
  rcases hq with hq | hq
  · obtain ⟨its, r', pl, hz⟩ := I.list hq
    have hlen := r'.length
    obtain ⟨o, ho, hc, n, hd⟩ := pl.isList
    exact call_list_seq p (.inl rfl) ho hc hd (fun h' c' kp e => fin its r' hz h' c' kp e) (by simp only [List.size_toArray] <;> omega)
  · obtain ⟨its, r', pl, hz⟩ := I.tuple hq
    have hlen := r'.length
    obtain ⟨o, ho, hc, n, hd⟩ := pl
    exact call_list_seq p (.inr rfl) ho hc hd (fun h' c' kp e => fin its r' hz h' c' kp e) (by simp only [List.size_toArray] <;> omega)
theorem call_tuple_of : CallR X (.type "tuple") (fun xs H Q => ∃ p ys, xs = [.ref p] ∧ ((SqL X.K H p ys ∧ ∀ l, H l = none → Q (.ref l) (upd H l (.tup ys))) ∨ (SqT X.K H p ys ∧ Q (.ref p) H))) := by
  intro pins s σ H xs us Q I r h
  obtain ⟨p, ys, rfl, h⟩ := h
  obtain ⟨u, rfl, rx⟩ := vals1 r
  cases rx
  rcases h with ⟨hq, q⟩ | ⟨hq, q⟩
  · obtain ⟨its, r', pl, hz⟩ := I.list hq
    have hlen := r'.length
    refine call_tuple_list pl.isList (fun h' kp => ?_) (by simp only [List.size_toArray] <;> omega)
    have I1 : Inv X pins σ H { s with heap := h' } := I.kept (t' := s.toks) kp
    have I2 : Inv X pins σ (upd H h'.objs.size (.tup ys)) { s with heap := h'.push { cls := .type "tuple", data := .seq its.toArray } } :=
      I1.laid (t' := s.toks) (fun b o e => Heap.get?_push_of_some _ e) (Nat.le_refl _) (show ObjOk X.prog X.w _ _ _ (.tup ys) from ⟨hz, its, r', IsTup.new _ _⟩)
    exact ⟨.ref h'.objs.size, _, I2, rfl, q _ (I1.hok.fresh (Nat.le_refl _))⟩
  · obtain ⟨its, r', pl, hz⟩ := I.tuple hq
    exact call_tuple_same pl ⟨.ref p, H, I, rfl, q⟩

/-! ### the call of a builtin's method: o.m(..) -/
/-- the value is of that builtin type -/
def tyV (K : PySem.W.Frag) (T : String) (x : V) (H : Hp) : Prop := match x with
  | .str _ => T = "str"
  | .int _ => T = "int"
  | .ref p => (T = "list" ∧ ∃ xs, SqL K H p xs) ∨ (T = "tuple" ∧ ∃ o, K.lookup p = some o ∧ o.cls = .type "tuple" ∧ o.dict = none) ∨
      (T = "dict" ∧ ((∃ kvs, H p = some (.dK kvs)) ∨ ∃ kvs, H p = some (.dT kvs))) ∨ (T = "set" ∧ ∃ S n, H p = some (.set S n))
  | _ => False
theorem tyV_is {pins : List (Addr × Obj)} {σ : St} {H : Hp} {s : Shared} {T : String} {x : V} {v : Value} (I : Inv X pins σ H s) (r : RelV x v) (ty : tyV X.K T x H) :
    s.TypeIs v T ∧ ∀ a, v = .ref a → ∃ ob, s.heap.get? a = some ob ∧ ob.dict = none := by
  cases x with
  | str z =>
    obtain ⟨t, rfl⟩ := r
    cases (show T = "str" from ty)
    exact ⟨typeIs_str s z t, fun _ e => nomatch e⟩
  | int i =>
    obtain ⟨t, rfl⟩ := r
    cases (show T = "int" from ty)
    exact ⟨typeIs_int s i t, fun _ e => nomatch e⟩
  | ref p =>
    cases r
    rcases ty with ⟨rfl, xs, hq⟩ | ⟨rfl, o, hk, hc, hd⟩ | ⟨rfl, hk⟩ | ⟨rfl, S, n, hk⟩
    · obtain ⟨its, _, pl, _⟩ := I.list hq
      refine ⟨pl.isList.typeIs, fun a e => ?_⟩
      cases e
      obtain ⟨o, n, e, c, hd, _⟩ := pl
      exact ⟨o, e, hd⟩
    · refine ⟨⟨o, I.kIn p o hk, hc⟩, fun a e => ?_⟩
      cases e
      exact ⟨o, I.kIn _ o hk, hd⟩
    · have z : ∃ o, s.heap.get? p = some o ∧ o.ExactDict := by
        rcases hk with ⟨kvs, hk⟩ | ⟨kvs, hk⟩
        · obtain ⟨_, _, _, _, o, _, _, e, ex, _⟩ := I.hok p _ hk
          exact ⟨o, e, ex⟩
        · obtain ⟨_, _, _, _, o, _, _, e, ex, _⟩ := I.hok p _ hk
          exact ⟨o, e, ex⟩
      obtain ⟨o, e, ex⟩ := z
      refine ⟨⟨o, e, ex.1⟩, fun a e2 => ?_⟩
      cases e2
      exact ⟨o, e, ex.2.1⟩
    · obtain ⟨o, _, _, _, e, ex, _⟩ := I.hok p _ hk
      refine ⟨⟨o, e, ex.1⟩, fun a e2 => ?_⟩
      cases e2
      exact ⟨o, e, ex.2.1⟩
  | _ => exact False.elim ty
def tBM0 (K : PySem.W.Frag) (T : String) (r : V → List V → Hp → VK → Prop) (to : TE) : TE := fun σ H Q => to σ H fun x H1 => tyV K T x H1 ∧ r x [] H1 Q
def tBM (K : PySem.W.Frag) (T : String) (r : V → List V → Hp → VK → Prop) (to : TE) (t : TA) : TE := fun σ H Q => to σ H fun x H1 => tyV K T x H1 ∧ t σ H1 fun xs H2 => r x xs H2 Q
variable {o e : Expr} {es : List Expr} {to : TE} {t : TA} {name : Str} {apos cpos : Pos} {T id : String} {r : V → List V → Hp → VK → Prop}
theorem pe_bm0 (pa : PlainAttrs T) (slot : Slot T name id) (hty : typeOf (.builtin id) = pure (.type "method_descriptor")) (hm : MtR X id r) (ho : PE X o to)
    (hbase : attributeBase o name X.env (eval o X.env) = eval o X.env := by rfl) (hline : (apos.endLine == cpos.line) = true := by rfl) : PE X (.Call (.Attribute o name apos) [] [] cpos) (tBM0 X.K T r to) := by
  intro pins s σ H Q I h
  refine wpAny_Call_method0_late hbase hline (thn (ho pins s σ H _ I h) fun v s1 ⟨x, H1, I1, r1, ty, q1⟩ => ?_)
  obtain ⟨h1, h2⟩ := tyV_is I1 r1 ty
  exact ⟨T, id, pa, slot, hty, h1, h2, Calls.callWith_builtin rfl (PySem.evalArgs_none (hm pins s1 σ H1 x [] v [] Q I1 r1 .nil q1))⟩
theorem pe_bm (pa : PlainAttrs T) (slot : Slot T name id) (hty : typeOf (.builtin id) = pure (.type "method_descriptor")) (hm : MtR X id r) (ho : PE X o to) (ha : PA X (e :: es) t)
    (hbase : attributeBase o name X.env (eval o X.env) = eval o X.env := by rfl)
    (hfew : ((backTo cpos (starEach (e :: es) X.env)).all (fun x => !x.1) && (backToKw cpos (keywordEach [] X.env)).all (fun x => x.1.isSome)
      && decide ((e :: es).length + ([] : List Keyword).length + (if ([] : List Keyword).isEmpty then 0 else 1) < 30)) = true := by rfl)
    (hline : (apos.endLine == cpos.line) = true := by rfl) (hs : starEach (e :: es) X.env = (false, eval e X.env) :: starEach es X.env := by rfl) (hplain : (backTo cpos (starEach es X.env)).any (·.1) = false := by rfl) :
    PE X (.Call (.Attribute o name apos) (e :: es) [] cpos) (tBM X.K T r to t) := by
  intro pins s σ H Q I h
  refine wpAny_Call_method_late hbase hfew hline rfl (thn (ho pins s σ H _ I h) fun v s1 ⟨x, H1, I1, r1, ty, q1⟩ => ?_)
  obtain ⟨h1, h2⟩ := tyV_is I1 r1 ty
  refine ⟨T, id, pa, slot, hty, h1, h2, ?_⟩
  have hA := ha cpos pins s1 σ H1 _ I1 q1
  rw [hs] at hA ⊢
  refine Calls.callWith_builtin (by show (false || (backTo cpos (starEach es X.env)).any (·.1)) = false; rw [hplain] <;> rfl) (Calls.evalArgs_plain ?_)
  exact thn hA fun us s2 ⟨vs, H2, I2, r2, q2⟩ => hm pins s2 σ H2 x vs v us Q I2 r1 r2 q2
/- xs.append(e), list.index on a module's tuple .. are MtR facts of 06m -/
end
end L2

namespace L2
open PySem PySem.Spec PyProof.Rows

def MtM (X : Cx) (id : String) (r : V → List V → Hp → VK → Prop) : Prop :=
  ∀ (pins : List (Addr × Obj)) (s : Shared) (σ : St) (H : Hp) (x : V) (xs : List V) (v : Value) (us : List Value) (Q : VK), Inv X pins σ H s → RelV x v → Vals xs us → r x xs H Q →
    wpAny (model X.prog X.w) X.A (call (.builtin id) (v :: us)) (EP X pins σ Q) X.xe s

/-! ### lists of values -/
theorem Vals.one : ∀ {x : V} {us : List Value}, Vals [x] us → ∃ u, us = [u] ∧ RelV x u
  | _, _, .cons r .nil => ⟨_, rfl, r⟩
theorem Vals.two : ∀ {x y : V} {us : List Value}, Vals [x, y] us → ∃ u v, us = [u, v] ∧ RelV x u ∧ RelV y v
  | _, _, _, .cons r (.cons q .nil) => ⟨_, _, rfl, r, q⟩
theorem Vals.zero : ∀ {us : List Value}, Vals [] us → us = []
  | _, .nil => rfl
theorem Vals.dropLast {xs : List V} {us : List Value} (h : Vals xs us) : Vals xs.dropLast us.dropLast := by
  induction h with
  | nil => exact .nil
  | cons r t ih =>
    cases t with
    | nil => exact .nil
    | cons q t' => exact .cons r ih
theorem Vals.eraseIdx : ∀ {xs : List V} {us : List Value} (i : Nat), Vals xs us → Vals (xs.eraseIdx i) (us.eraseIdx i)
  | _, _, _, .nil => .nil
  | _, _, 0, .cons _ t => t
  | _, _, i + 1, .cons r t => .cons r (Vals.eraseIdx i t)
theorem Vals.reverse {xs : List V} {us : List Value} (h : Vals xs us) : Vals xs.reverse us.reverse := by
  induction h with
  | nil => exact .nil
  | cons r t ih => rw [List.reverse_cons, List.reverse_cons]; exact Vals.append ih (.cons r .nil)
theorem Vals.rep {xs : List V} {us : List Value} (h : Vals xs us) : ∀ k : Nat, Vals (List.replicate k xs).flatten (List.replicate k us).flatten
  | 0 => .nil
  | k + 1 => by
    rw [List.replicate_succ, List.replicate_succ, List.flatten_cons, List.flatten_cons]
    exact Vals.append h (Vals.rep h k)
theorem erase_last {α : Type} (l : List α) : l.eraseIdx (l.length - 1) = l.dropLast := by
  induction l with
  | nil => rfl
  | cons a r ih =>
    cases r with
    | nil => rfl
    | cons b r =>
      have e : (a :: b :: r).length - 1 = ((b :: r).length - 1) + 1 := by
        have h1 : (a :: b :: r).length = r.length + 2 := rfl
        have h2 : (b :: r).length = r.length + 1 := rfl
        omega
      rw [e, List.eraseIdx_cons_succ, ih]
      all_goals rfl
theorem len_erase {α : Type} : ∀ (l : List α) (i : Nat), (l.eraseIdx i).length ≤ l.length
  | [], _ => Nat.le_refl _
  | _ :: _, 0 => Nat.le_succ _
  | _ :: r, i + 1 => Nat.succ_le_succ (len_erase r i)
theorem foldl_rep (its : List Value) : ∀ (k : Nat) (acc : List Value),
    List.foldl (fun x1 x2 => x1 ++ x2) acc.toArray (List.replicate k its.toArray) = (acc ++ (List.replicate k its).flatten).toArray
  | 0, acc => by simp
  | k + 1, acc => by
    have e : acc.toArray ++ its.toArray = (acc ++ its).toArray := by simp
    have e2 : (acc ++ its) ++ (List.replicate k its).flatten = acc ++ (List.replicate (k + 1) its).flatten := by
      rw [List.replicate_succ, List.flatten_cons, List.append_assoc]
    rw [← e2, ← foldl_rep its k (acc ++ its), ← e, List.replicate_succ, List.foldl_cons]

section
variable {X : Cx} {pins : List (Addr × Obj)} {σ : St} {H : Hp} {s : Shared} {l b : Addr} {xs ys zs : List V}

/-! ### the two steps: a tracked list is rewritten, a new list is laid -/
theorem Inv.lset {its its' : List Value} {n : Nat} {f : Array Value → Array Value} {t' : Nat} (I : Inv X pins σ H s) (hH : H l = some (.lst xs))
    (e : s.heap.get? l = some { cls := .type "list", data := .seq its.toArray n }) (hf : f its.toArray = its'.toArray) (hv : Vals ys its') (hz : ys.length ≤ sizeLine) :
    Inv X pins σ (upd H l (.lst ys)) { s with heap := s.heap.update l (Obj.mapSeq f), toks := t' } := by
  have q := PySem.IsL.update e f
  rw [hf] at q
  refine I.write (x := l) (e := l) (by rw [hH]; exact trivial) (.inl rfl) (fun b' u hb hu => (Heap.get?_update_other s.heap (Obj.mapSeq f) (Ne.symm hb)).trans hu) ⟨_, q⟩ ?_
  exact ⟨hz, its', _, hv, q⟩
theorem Inv.lnew {its : List Value} {t' : Nat} (I : Inv X pins σ H s) (hv : Vals ys its) (hz : ys.length ≤ sizeLine) :
    Inv X pins σ (upd H s.heap.objs.size (.lst ys)) { s with heap := s.heap.push { cls := .type "list", data := .seq its.toArray }, toks := t' } :=
  I.laid (fun _ _ q => Heap.get?_push_of_some _ q) (Nat.le_refl _) ⟨hz, its, 0, hv, Heap.get?_push_size _ rfl⟩
theorem Inv.fresh (I : Inv X pins σ H s) : H s.heap.objs.size = none := I.hok.fresh (Nat.le_refl _)
theorem Inv.lstM (I : Inv X pins σ H s) (hH : H l = some (.lst xs)) : xs.length ≤ sizeLine ∧ ∃ (its : List Value) (n : Nat), Vals xs its ∧ xs.length = its.length ∧ s.heap.get? l = some { cls := .type "list", data := .seq its.toArray n } := by
  obtain ⟨z, its, n, r, e⟩ := I.hok l _ hH
  exact ⟨z, its, n, r, r.length, e⟩

theorem notLongL {n : Nat} (h : n ≤ sizeLine) : Builtin.List.listTooLong n = false := by
  unfold Builtin.List.listTooLong
  exact decide_eq_false (by omega)
end

section
variable {X : Cx}

/-! ### methods -/
def rAppend : V → List V → Hp → VK → Prop := fun x vs H Q => ∃ l xs y, x = .ref l ∧ vs = [y] ∧ H l = some (.lst xs) ∧ xs.length < sizeLine ∧ Q .non (upd H l (.lst (xs ++ [y])))
theorem mt_append : MtM X "list.append" rAppend := by
  intro pins s σ H x vs v us Q I rx rv h
  obtain ⟨l, xs, y, rfl, rfl, hH, hz, q⟩ := h
  cases rx
  obtain ⟨u, rfl, ru⟩ := rv.one
  obtain ⟨z, its, n, r, hl, e⟩ := I.lstM hH
  refine call_meets F.slot_list_append ⟨_, e, rfl⟩ F.entry_list_append (F.args_list_append_2 _ _) (PySem.list_append l its.toArray n u (by rw [List.size_toArray]; omega)) ⟨e, ?_⟩
  refine ⟨.non, _, I.lset (its' := its ++ [u]) hH e (by simp) (r.append (.cons ru .nil)) ?_, rfl, q⟩
  rw [List.length_append, List.length_singleton]
  omega

def rExtend : V → List V → Hp → VK → Prop := fun x vs H Q => ∃ l b xs zs, x = .ref l ∧ vs = [.ref b] ∧ H l = some (.lst xs) ∧ H b = some (.lst zs) ∧ xs.length + zs.length ≤ sizeLine ∧ Q .non (upd H l (.lst (xs ++ zs)))
theorem mt_extend : MtM X "list.extend" rExtend := by
  intro pins s σ H x vs v us Q I rx rv h
  obtain ⟨l, b, xs, zs, rfl, rfl, hH, hB, hz, q⟩ := h
  cases rx
  obtain ⟨u, rfl, ru⟩ := rv.one
  cases ru
  obtain ⟨z, its, n, r, hl, e⟩ := I.lstM hH
  obtain ⟨z2, its2, n2, r2, hl2, e2⟩ := I.lstM hB
  have hsz : its.toArray.size + its2.toArray.size ≤ sizeLine := by rw [List.size_toArray, List.size_toArray]; omega
  have hlong : ¬ (!its.toArray.isEmpty && Builtin.List.listTooLong (its.toArray.size + its2.toArray.size)) = true := by
    rw [notLongL hsz, Bool.and_false]
    exact Bool.false_ne_true
  refine call_meets F.slot_list_extend ⟨_, e, rfl⟩ F.entry_list_extend (F.args_list_extend_2 _ _)
    (AutoSeq1.list_extend_list_list_0 l its.toArray n b its2.toArray n2 hlong (by rw [List.size_toArray]; omega) (by omega)) ⟨e, e2, ?_⟩
  refine ⟨.non, _, I.lset (its' := its ++ its2) hH e (by simp) (r.append r2) ?_, rfl, q⟩
  rw [List.length_append]
  omega

def rPop : V → List V → Hp → VK → Prop := fun x vs H Q => ∃ l xs y, x = .ref l ∧ vs = [] ∧ H l = some (.lst xs) ∧ xs[xs.length - 1]? = some y ∧ Q y (upd H l (.lst xs.dropLast))
theorem mt_pop : MtM X "list.pop" rPop := by
  intro pins s σ H x vs v us Q I rx rv h
  obtain ⟨l, xs, y, rfl, rfl, hH, hy, q⟩ := h
  cases rx
  have hus := rv.zero
  subst hus
  obtain ⟨z, its, n, r, hl, e⟩ := I.lstM hH
  obtain ⟨u, hu, ru⟩ := r.get hy
  have hy' : its.toArray[its.toArray.size - 1]? = some u := by
    show its.toArray[its.length - 1]? = some u
    rw [← Array.getElem?_toList, ← hl]
    exact hu
  refine call_meets F.slot_list_pop ⟨_, e, rfl⟩ F.entry_list_pop (F.args_list_pop_1 _) (MeetsSeq.list_pop_last l its.toArray n u hy' (by rw [List.size_toArray]; omega)) ⟨e, ?_⟩
  refine ⟨y, _, I.lset (its' := its.dropLast) hH e ?_ r.dropLast ?_, ru, q⟩
  · show its.toArray.eraseIdxIfInBounds (its.toArray.size - 1) = its.dropLast.toArray
    rw [List.size_toArray, List.eraseIdxIfInBounds_toArray, erase_last]
  · rw [List.length_dropLast]
    omega

def rPopAt : V → List V → Hp → VK → Prop := fun x vs H Q => ∃ l xs i k y, x = .ref l ∧ vs = [.int i] ∧ H l = some (.lst xs) ∧ -(2 ^ 63) ≤ i ∧ i < 2 ^ 63 ∧ seqIndex? i xs.length = some k ∧ xs[k]? = some y ∧ Q y (upd H l (.lst (xs.eraseIdx k)))
theorem mt_popAt : MtM X "list.pop" rPopAt := by
  intro pins s σ H x vs v us Q I rx rv h
  obtain ⟨l, xs, i, k, y, rfl, rfl, hH, h1, h2, hk, hy, q⟩ := h
  cases rx
  obtain ⟨u, rfl, ru⟩ := rv.one
  obtain ⟨t, rfl⟩ := ru
  obtain ⟨z, its, n, r, hl, e⟩ := I.lstM hH
  obtain ⟨w, hw, rw'⟩ := r.get hy
  refine call_meets F.slot_list_pop ⟨_, e, rfl⟩ F.entry_list_pop (F.args_list_pop_2 _ _)
    (MeetsSeq.list_pop_at l its.toArray n i t k w (fitsIndex_both h1 h2) (by rw [List.size_toArray, ← hl]; exact hk) (by rw [← Array.getElem?_toList]; exact hw) (by rw [List.size_toArray]; omega)) ⟨e, ?_⟩
  refine ⟨y, _, I.lset (its' := its.eraseIdx k) hH e ?_ (r.eraseIdx k) ?_, rw', q⟩
  · show its.toArray.eraseIdxIfInBounds k = (its.eraseIdx k).toArray
    rw [List.eraseIdxIfInBounds_toArray]
  · have := len_erase xs k
    omega

def rReverse : V → List V → Hp → VK → Prop := fun x vs H Q => ∃ l xs, x = .ref l ∧ vs = [] ∧ H l = some (.lst xs) ∧ Q .non (upd H l (.lst xs.reverse))
theorem mt_reverse : MtM X "list.reverse" rReverse := by
  intro pins s σ H x vs v us Q I rx rv h
  obtain ⟨l, xs, rfl, rfl, hH, q⟩ := h
  cases rx
  have hus := rv.zero
  subst hus
  obtain ⟨z, its, n, r, hl, e⟩ := I.lstM hH
  refine call_meets F.slot_list_reverse ⟨_, e, rfl⟩ F.entry_list_reverse (F.args_list_reverse_1 _) (AutoSeq1.list_reverse_list_0 l its.toArray n (by rw [List.size_toArray]; omega)) ⟨e, ?_⟩
  refine ⟨.non, _, I.lset (its' := its.reverse) hH e (by simp) r.reverse ?_, rfl, q⟩
  rw [List.length_reverse]
  omega

def rClear : V → List V → Hp → VK → Prop := fun x vs H Q => ∃ l xs, x = .ref l ∧ vs = [] ∧ H l = some (.lst xs) ∧ Q .non (upd H l (.lst []))
theorem mt_clear : MtM X "list.clear" rClear := by
  intro pins s σ H x vs v us Q I rx rv h
  obtain ⟨l, xs, rfl, rfl, hH, q⟩ := h
  cases rx
  have hus := rv.zero
  subst hus
  obtain ⟨z, its, n, r, hl, e⟩ := I.lstM hH
  refine call_meets F.slot_list_clear ⟨_, e, rfl⟩ F.entry_list_clear (F.args_list_clear_1 _) (AutoSeq1.list_clear_list_0 l its.toArray n (by rw [List.size_toArray]; omega)) ⟨e, ?_⟩
  exact ⟨.non, _, I.lset (its' := []) (ys := []) hH e rfl .nil (Nat.zero_le _), rfl, q⟩

/-! ### list + list, list += list, list * int -/
def rCat : R2 := fun x y H Q => ∃ l b xs zs, x = .ref l ∧ y = .ref b ∧ H l = some (.lst xs) ∧ H b = some (.lst zs) ∧ xs.length + zs.length ≤ sizeLine ∧ ∀ p, H p = none → Q (.ref p) (upd H p (.lst (xs ++ zs)))
theorem op_cat : OpR X (binaryOp .Add) rCat := by
  intro pins s σ H x y v u Q I rx ry h
  obtain ⟨l, b, xs, zs, rfl, rfl, hH, hB, hz, q⟩ := h
  cases rx
  cases ry
  obtain ⟨z, its, n, r, hl, e⟩ := I.lstM hH
  obtain ⟨z2, its2, n2, r2, hl2, e2⟩ := I.lstM hB
  refine PySem.P.add_list e e2 ?_ (by rw [List.size_toArray, List.size_toArray]; omega)
  have ea : its.toArray ++ its2.toArray = (its ++ its2).toArray := by simp
  rw [ea]
  exact ⟨.ref _, _, I.lnew (t' := s.toks) (r.append r2) (by rw [List.length_append]; omega), rfl, q _ I.fresh⟩
/-- a list times an int (a negative one is nothing) -/
def rRep : R2 := fun x y H Q => ∃ l k xs, x = .ref l ∧ y = .int k ∧ H l = some (.lst xs) ∧ -(2 ^ 63) ≤ k ∧ k < 2 ^ 63 ∧ xs.length * k.toNat ≤ sizeLine ∧
  ∀ p, H p = none → Q (.ref p) (upd H p (.lst (List.replicate k.toNat xs).flatten))
theorem len_rep {α : Type} (xs : List α) (k : Nat) : (List.replicate k xs).flatten.length = k * xs.length := by
  induction k with
  | zero => simp
  | succ k ih => rw [List.replicate_succ, List.flatten_cons, List.length_append, ih, Nat.succ_mul, Nat.add_comm]
theorem op_rep : OpR X (binaryOp .Mult) rRep := by
  intro pins s σ H x y v u Q I rx ry h
  obtain ⟨l, k, xs, rfl, rfl, hH, h1, h2, hz, q⟩ := h
  cases rx
  obtain ⟨t, rfl⟩ := ry
  obtain ⟨z, its, n, r, hl, e⟩ := I.lstM hH
  have hlen : its.toArray.size * k.toNat ≤ sizeLine := by rw [List.size_toArray, ← hl]; exact hz
  have hcap : ¬ its.toArray.size * k.toNat > (2 ^ 63 - 1) / 8 := by
    have : (sizeLine : Nat) ≤ (2 ^ 63 - 1) / 8 := by decide
    omega
  have hfit : ¬ (!Builtin.List.listFitsIndex k) = true := by
    rw [fitsIndex_both h1 h2]
    exact Bool.false_ne_true
  have hlong : ¬ Builtin.List.listTooLong (its.toArray.size * k.toNat) = true := by
    rw [notLongL hlen]
    exact Bool.false_ne_true
  have hnew : List.foldl (fun x1 x2 => x1 ++ x2) #[] (List.replicate (if its.toArray.isEmpty = true then 0 else k.toNat) its.toArray) = (List.replicate k.toNat its).flatten.toArray := by
    have f0 : ∀ m : Nat, List.foldl (fun x1 x2 => x1 ++ x2) #[] (List.replicate m its.toArray) = (List.replicate m its).flatten.toArray := fun m => by
      have := foldl_rep its m []
      rw [List.nil_append] at this
      exact this
    rw [f0]
    cases its with
    | nil => simp
    | cons a r' => rw [if_neg (by simp)]
  refine wpAny_binaryOp_repeat_ref (T := "list") (U := "int") (by decide) ⟨_, e, rfl⟩ (fun s' => typeIs_int s' k t) noFill_list_mul F.fills_int_mul F.slot_int_rmul repeat_list F.slot_int_index.lookup
    (call_meets F.slot_int_rmul (typeIs_int s k t) F.entry_int_rmul (F.args_int_rmul_2 _ _) (int___rmul___int_list k t l its.toArray n)
      ⟨e, rfl, ⟨_, e, rfl⟩, call_meets F.slot_list_mul ⟨_, e, rfl⟩ F.entry_list_mul (F.args_list_mul_2 _ _) (AutoListH.list___mul___list_int_3 l its.toArray n k t hfit hcap hlong) ⟨e, ?_⟩⟩)
  rw [hnew]
  exact ⟨.ref _, _, I.lnew (t' := s.toks) (r.rep k.toNat) (by rw [len_rep, Nat.mul_comm]; exact hz), rfl, q _ I.fresh⟩

/-! ### del xs[i] -/
theorem del_list {pins : List (Addr × Obj)} {s : Shared} {σ : St} {H : Hp} {l : Addr} {xs : List V} {i : Int} {t : Tok} {k : Nat} {Q : Unit → Shared → Prop} (I : Inv X pins σ H s) (hH : H l = some (.lst xs))
    (h1 : -(2 ^ 63) ≤ i) (h2 : i < 2 ^ 63) (hk : seqIndex? i xs.length = some k) (h : ∀ s', Inv X pins σ (upd H l (.lst (xs.eraseIdx k))) s' → Q () s') :
    wpAny (model X.prog X.w) X.A (delItem (.ref l) (.int i t)) Q X.xe s := by
  obtain ⟨z, its, n, r, hl, e⟩ := I.lstM hH
  refine PySem.P.delItem_list (k := k) e (fitsIndex_both h1 h2) (by rw [List.size_toArray, ← hl]; exact hk) (h _ ?_) (by rw [List.size_toArray]; omega)
  refine I.lset (its' := its.eraseIdx k) (t' := s.toks) hH e ?_ (r.eraseIdx k) ?_
  · show its.toArray.eraseIdxIfInBounds k = (its.eraseIdx k).toArray
    rw [List.eraseIdxIfInBounds_toArray]
  · have := len_erase xs k
    omega
end

/-! ### xs[a:b] = ys -/
section
variable {prog : Program} {w : World} {A : Around} {E : Value → Shared → Prop} {s : Shared}
theorem splice_eq (its its2 : List Value) (a c : Nat) : its.toArray.extract 0 a ++ its2.toArray ++ its.toArray.extract c its.toArray.size = (its.take a ++ its2 ++ its.drop c).toArray := by
  apply Array.toList_inj.mp
  first
    | (simp
       exact List.take_of_length_le (by simp))
    | simp [List.take_of_length_le]
    | simp
theorem bounds_run {a c n : Nat} (hac : a ≤ c) (hc : c ≤ n) : sliceBounds (some (a : Int)) (some (c : Int)) none n = ((a : Int), (c : Int), 1) := by
  simp only [sliceBounds, Option.getD_none]
  have h1 : ¬ ((a : Int) < 0) := by omega
  have h2 : ¬ ((c : Int) < 0) := by omega
  simp only [h1, h2, if_false, show (1 : Int) > 0 by decide, if_true]
  congr 1
  · omega
  · congr 1; omega
set_option maxRecDepth 100000 in
/-- list.__setitem__ with a slice of step one and another list -/
theorem setItem_slice {l b sl : Addr} {items new : Array Value} {n n2 : Nat} {vl vu : Value} {a c : Nat} {Q : Unit → Shared → Prop}
    (e : s.heap.get? l = some { cls := .type "list", data := .seq items n }) (e2 : s.heap.get? b = some { cls := .type "list", data := .seq new n2 }) (hne : l ≠ b)
    (hs : s.heap.IsSliceOf sl vl vu .none) (pl : IsPart vl (some (a : Int))) (pu : IsPart vu (some (c : Int))) (hac : a ≤ c) (hc : c ≤ items.size)
    (hsz : items.size + new.size ≤ sizeLine) (h : Q () { s with heap := s.heap.update l (Obj.mapSeq fun xs => xs.extract 0 a ++ new ++ xs.extract c xs.size) }) :
    wpAny (model prog w) A (setItem (.ref l) (.ref sl) (.ref b)) Q E s := by
  have hl : s.heap.IsList l items := PySem.IsL.isList e
  have hb : s.heap.IsList b new := PySem.IsL.isList e2
  obtain ⟨os, hos, hcs, hds⟩ := id hs
  have hTs : s.TypeIs (.ref sl) "slice" := ⟨os, hos, hcs⟩
  have hstep : ¬ ((rawPart none == rawInt 0) = true) := Bool.false_ne_true
  have hsame : Builtin.List.listSameRef (.ref l) (.ref b) = false := by
    unfold Builtin.List.listSameRef
    exact beq_eq_false_iff_ne.mpr hne
  have hmax : (max (a : Int) (c : Int)).toNat = c := by omega
  have hz' : ((fun xs : Array Value => xs.extract 0 a ++ new ++ xs.extract c xs.size) items).size ≤ sizeLine + 1 := by
    simp only [Array.size_append, Array.size_extract]
    omega
  unfold setItem
  try with_reducible refine wpAny_holding ?_
  first | refine wpAny_bind (wpAny_pure ?_) | skip
  refine wpAny_bind (wpAny_sequenceKey hl.typeIs (by decide) ?_)
  refine wpAny_bind (wpAny_callSpecial?_slot (name := Str.ofString "__setitem__") hl.typeIs slot_list_setitem
    (wpAny_call_entry slot_list_setitem hl.typeIs entry_list_setitem ?_ (args_list_setitem _ _ _)))
  show wpAny _ _ (Builtin.List.listSubscript? (.ref sl) >>= _) _ _ s
  refine wpAny_bind ?_
  unfold Builtin.List.listSubscript?
  refine wpAny_bind (wpAny_specialOf hTs slice_no_index ?_)
  simp only [Option.isNone_none, if_true]
  refine wpAny_pure ?_
  show wpAny _ _ (typeOf (.ref sl) >>= _) _ _ s
  refine wpAny_bind (wpAny_typeOf hTs ?_)
  first
    | rw [if_neg (by decide)]
    | refine PySem.W.KFB.if_not (by decide) ?_
  rw [listSliceParts_eq]
  refine wpAny_bind (wpAny_bind (wpAny_field hos hds (x := .none) rfl (wpAny_bind (wpAny_listPart .none ?_))))
  rw [if_neg hstep]
  refine wpAny_bind (wpAny_field hos hds (x := vl) rfl (wpAny_bind (wpAny_listPart pl ?_)))
  refine wpAny_bind (wpAny_field hos hds (x := vu) rfl (wpAny_bind (wpAny_listPart pu (wpAny_pure ?_))))
  first
    | simp only [hsame, Bool.false_eq_true, if_false]
    | refine PySem.W.KFB.if_not hsame ?_
    | (dsimp only
       rw [if_neg (by rw [hsame]; exact Bool.false_ne_true)])
  refine wpAny_bind (m := Builtin.List.listAllItems (.ref b) "must assign iterable to extended slice") ?_
  unfold Builtin.List.listAllItems
  refine wpAny_bind (wpAny_typeOf hb.typeIs ?_)
  first
    | refine PySem.W.KFB.if_so (by decide) ?_
    | rw [if_pos (by decide)]
    | simp only [beq_self_eq_true, Bool.true_or, if_true]
  unfold Builtin.List.listItems
  refine wpAny_bind (wpAny_seqItems e2 rfl (wpAny_pure ?_))
  refine wpAny_bind (wpAny_bind (wpAny_seqItems e rfl (wpAny_pure ?_)))
  refine wpAny_bind (wpAny_of_eq ((sliceIndices_raw (some (a : Int)) (some (c : Int)) none items.size (by simp)).trans (congrArg (pure : Int × Int × Int → Sem (Int × Int × Int)) (bounds_run hac hc))) ?_)
  show wpAny _ _ (if ((1 : Int) == 1) = true then _ else _) _ _ s
  rw [if_pos (by decide)]
  refine wpAny_bind (wpAny_rule ?_)
  first
    | simp only [notLongL hsz, Bool.false_eq_true, if_false]
    | refine PySem.W.KFB.if_not (notLongL hsz) ?_
  first | refine wpAny_bind (wpAny_pure ?_) | skip
  show wpAny _ _ (updateSeq l (fun xs => xs.extract 0 ((a : Int)).toNat ++ new ++ xs.extract (max (a : Int) (c : Int)).toNat xs.size) >>= _) _ _ s
  rw [hmax, Int.toNat_natCast]
  refine wpAny_bind (wpAny_updateSeq (hz := Nat.le_trans (Nat.le_add_right _ _) hsz) (_hz' := hz') e rfl ?_)
  refine wpAny_bind (wpAny_letGo ?_)
  first
    | exact wpAny_bind (wpAny_pure (wpAny_pure ⟨.none, rfl, wpAny_pure h⟩))
    | exact wpAny_pure ⟨.none, rfl, wpAny_pure h⟩
end

section
variable {X : Cx}
/-- xs[a:c] = ys of another list, at the value level: sl is the slice object that was just made -/
theorem set_slice {pins : List (Addr × Obj)} {s : Shared} {σ : St} {H : Hp} {l b sl : Addr} {xs ys : List V} {a c : Int} {vl vu : Value} {Q : Unit → Shared → Prop} (I : Inv X pins σ H s)
    (hH : H l = some (.lst xs)) (hB : H b = some (.lst ys)) (hne : l ≠ b) (hs : s.heap.IsSliceOf sl vl vu .none) (ra : RelV (.int a) vl) (rc : RelV (.int c) vu) (h0 : 0 ≤ a) (hac : a ≤ c) (hc : c ≤ xs.length)
    (hz : xs.length + ys.length ≤ sizeLine) (h : ∀ s', Inv X pins σ (upd H l (.lst (xs.take a.toNat ++ ys ++ xs.drop c.toNat))) s' → Q () s') :
    wpAny (model X.prog X.w) X.A (setItem (.ref l) (.ref sl) (.ref b)) Q X.xe s := by
  obtain ⟨ta, rfl⟩ := ra
  obtain ⟨tc, rfl⟩ := rc
  obtain ⟨z, its, n, r, hl, e⟩ := I.lstM hH
  obtain ⟨z2, its2, n2, r2, hl2, e2⟩ := I.lstM hB
  obtain ⟨a', rfl⟩ := Int.eq_ofNat_of_zero_le h0
  obtain ⟨c', rfl⟩ := Int.eq_ofNat_of_zero_le (Int.le_trans h0 hac)
  simp only [Int.toNat_natCast] at h
  refine setItem_slice (a := a') (c := c') e e2 hne hs (.int _ _) (.int _ _) (by omega) (by rw [List.size_toArray]; omega) (by rw [List.size_toArray, List.size_toArray]; omega) (h _ ?_)
  refine I.lset (its' := its.take a' ++ its2 ++ its.drop c') (t' := s.toks) hH e ?_ (Vals.append (Vals.append (r.take _) r2) (r.drop _)) ?_
  · exact splice_eq its its2 a' c'
  · rw [List.length_append, List.length_append, List.length_take, List.length_drop]
    omega
end
end L2

namespace Att
open PySem PySem.W PySem.Calls PyProof.Rows

/-! ### the script -/
theorem ints_of_wellAll {P : Params} {h : Heap} : ∀ (ns : List Int) (vs : List Value), WellAll P h vs (ns.map WData.int) → IntsAre vs ns := by
  intro ns
  induction ns with
  | nil =>
    intro vs w
    rw [List.map_nil] at w
    cases w
    exact .nil
  | cons n ns ih =>
    intro vs w
    rw [List.map_cons] at w
    cases w with
    | cons a b =>
      cases a
      exact .cons _ _ (ih _ b)

theorem script_of {l : OpenLaw} {n : Nat} (hn : l.most = some n) {P : Params} {h : Heap} {args : List WData} {vals : List Value}
    (hpre : l.row.toRowW.claim.pre args = true) (hwl : WellAll P h vals args) :
    ∃ a vs ns, vals = [Value.ref a] ∧ args = [WData.list (ns.map WData.int)] ∧ h.get? a = some { cls := .type "list", data := .seq vs.toArray } ∧ IntsAre vs ns ∧ ns.length ≤ n := by
  have hsh : WShape.hasAll [] args [.list .int] = true := (pre_splitW hpre).1
  have hc : l.pre.holds [] { args := args } = true := (pre_splitW hpre).2
  obtain ⟨d, r, rfl, h1, h2⟩ := hasAllW_cons hsh
  obtain rfl := hasAllW_nil h2
  obtain ⟨xs, rfl, h3⟩ := hasW_list h1
  obtain ⟨ns, rfl⟩ := items_int h3
  have hlen : ns.length ≤ n := by
    unfold OpenLaw.pre at hc
    have h4 : (WTm.not (.lt (.lit (.int (n : Int))) (.len (.arg 0)))).holds [] { args := [.list (ns.map .int)] } = true := by
      have h4 := (holds_andW hc).1
      rw [hn] at h4
      exact h4
    have h5 := condW_of h4 (w_not (w_lt w_lit (w_len_list (w_arg rfl))))
    rw [List.length_map] at h5
    refine Nat.le_of_not_lt fun q => ?_
    have q' : (n : Int) < ((ns.length : Nat) : Int) := by omega
    first
      | (rw [decide_eq_true q'] at h5; exact absurd h5 (by decide))
      | (simp at h5; omega)
  cases hwl with
  | cons w1 w2 =>
    cases w2
    cases w1 with
    | list ho hall => exact ⟨_, _, ns, rfl, rfl, ho, ints_of_wellAll ns _ hall, hlen⟩

theorem post_true (l : OpenLaw) (args : List WData) : l.row.toRowW.claim.post args (.bool true) args = true :=
  postW_of (r := l.row.toRowW) (X := (true == true))
    (show WShape.has [] (.bool true) .bool = true by first | rfl | decide | simp [WShape.has, WShape.arms, WShape.armsAll])
    (show (WTm.eq .res (.lit (.bool true))).value [] { args := args, res := some (.bool true), after := args } = some (.bool (true == true)) from w_eq_bool (w_res rfl) w_lit) rfl

/-! ### the attachment: holds_open's last premise (the goal 'hc' behind k_head) from a wpAny of the law's body -/
theorem attach {l : OpenLaw} {n : Nat} {q : Program} {loose : List Str} {XP : (Str → Option Value) → Heap → Prop} {YP : World → Heap → Prop} {d : DefRec} {x : Str}
    (hn : l.most = some n) (hdf : d.params.defaults = [])
    (hbind : ∀ pm cd doc v : Value, bindArgs (docDef d.name d.params d.body d.scope pm cd doc) ⟨[v], []⟩ = pure [(x, v)])
    (hx : d.scope.names.lookup x = some .local ∨ d.scope.names.lookup x = some .cell)
    (hk : d.scope.kind = .function) (hco : d.scope.isCoroutine = false) (hgen : d.scope.isGenerator = false)
    (body : ∀ (w : World) (s₀ s₁ s : Shared) (mg mb : Str → Option Value) (fa : Addr) (o : Obj) (pm cd doc : Value) (a : Addr) (vs : List Value) (ns : List Int),
      Ground q loose [] XP w s₀ mg mb s₁.heap → YP w s₁.heap →
      s₁.heap.get? fa = some o → o.data = .func (docDef d.name d.params d.body d.scope pm cd doc) → s₁.heap.CodeRec cd d.name → mg d.name = some (.ref fa) →
      s₁.heap.get? a = some { cls := .type "list", data := .seq vs.toArray } → IntsAre vs ns → ns.length ≤ n →
      s.gens = #[] → s.os = s₁.os →
      Fr s₁.heap s₁.heap.objs.size s.heap (bindL (envOfC d.name d.scope s₁.heap.objs.size fa cd).kindOf [(x, .ref a)] fun _ => none) →
      Cl s₁.heap.objs.size (cellsFrom (s₁.heap.objs.size + 1) d.scope.names []) s.heap (bindC (envOfC d.name d.scope s₁.heap.objs.size fa cd).kindOf [(x, .ref a)] fun _ => none) →
      wpAny (model l.prog w) (callerA.deeper (envOfC d.name d.scope s₁.heap.objs.size fa cd)) (execs d.body (envOfC d.name d.scope s₁.heap.objs.size fa cd))
        (fun f s' => f = .ret (.bool true) ∧ OldK s₁.heap s'.heap ∧ s'.os = s₁.os ∧ AllBare s'.gens) (fun _ _ => False) s) :
    WalkO q loose XP YP l.row.toRowW d [] (fun f vs => PySem.call f vs) := by
  intro w s₀ s₁ mg mb G Y fa o pm cd doc dV kV ho hd hcd hD hmg hg args vals as hpre hlay hrd hwl hlo
  obtain rfl : dV = .none := Dflts.none hD hdf
  obtain rfl : kV = .none := Dflts.noKw hD
  obtain ⟨a, vs, ns, rfl, rfl, hobj, hints, hlen⟩ := script_of hn hpre hwl
  refine enter_call ?_
  refine call_cells_ret (o := o) (by rw [depth_caller]; decide) ho (fd_plain hd) G.T.nolimit hcd (hbind pm cd doc (.ref a)) (fun y hy => ?_) (fun h₁ tk F X => ?_) hco hgen hk
  · obtain rfl : y = (x, Value.ref a) := List.mem_singleton.mp hy
    rcases hx with e | e
    · exact .inl e
    · exact .inr ⟨e, cellsFrom_some _ _ _ (.inl e)⟩
  · refine wpAny_mono (body w s₀ s₁ { s₁ with heap := h₁, toks := tk } mg mb fa o pm cd doc a vs ns G Y ho (fd_plain hd) hcd hmg hobj hints hlen hg rfl F X) (fun f s' hq => ?_) (fun _ _ hq => hq)
    obtain ⟨rfl, h2, h3, h4⟩ := hq
    exact ⟨.inl ⟨.bool true, .bool true, [], rfl, fun _ => rfl, .bool true, post_true l _, fun _ => ⟨List.Pairwise.nil, fun _ hm => (nomatch hm)⟩⟩, h2, h3, h4⟩

/-- the same from a codeAny of the CALL (for a layer whose function contracts speak of calls) -/
theorem attach_call {l : OpenLaw} {n : Nat} {q : Program} {loose : List Str} {XP : (Str → Option Value) → Heap → Prop} {YP : World → Heap → Prop} {d : DefRec}
    (hn : l.most = some n) (hdf : d.params.defaults = [])
    (call : ∀ (w : World) (s₀ s₁ : Shared) (mg mb : Str → Option Value) (fa : Addr) (o : Obj) (pm cd doc : Value) (a : Addr) (vs : List Value) (ns : List Int),
      Ground q loose [] XP w s₀ mg mb s₁.heap → YP w s₁.heap →
      s₁.heap.get? fa = some o → o.data = .func (docDef d.name d.params d.body d.scope pm cd doc) → s₁.heap.CodeRec cd d.name → mg d.name = some (.ref fa) →
      s₁.heap.get? a = some { cls := .type "list", data := .seq vs.toArray } → IntsAre vs ns → ns.length ≤ n → s₁.gens = #[] →
      codeAny (model l.prog w) callerA (.call (.ref fa) ⟨[.ref a], []⟩) (fun r s' => r = .ok (.ret (.bool true)) ∧ OldK s₁.heap s'.heap ∧ s'.os = s₁.os ∧ AllBare s'.gens) s₁) :
    WalkO q loose XP YP l.row.toRowW d [] (fun f vs => PySem.call f vs) := by
  intro w s₀ s₁ mg mb G Y fa o pm cd doc dV kV ho hd hcd hD hmg hg args vals as hpre hlay hrd hwl hlo
  obtain rfl : dV = .none := Dflts.none hD hdf
  obtain rfl : kV = .none := Dflts.noKw hD
  obtain ⟨a, vs, ns, rfl, rfl, hobj, hints, hlen⟩ := script_of hn hpre hwl
  refine enter_call (codeAny_mono (call w s₀ s₁ mg mb fa o pm cd doc a vs ns G Y ho (fd_plain hd) hcd hmg hobj hints hlen hg) fun r s' hq => ?_)
  obtain ⟨rfl, h2, h3, h4⟩ := hq
  exact ⟨.inl ⟨.bool true, .bool true, [], rfl, fun _ => rfl, .bool true, post_true l _, fun _ => ⟨List.Pairwise.nil, fun _ hm => (nomatch hm)⟩⟩, h2, h3, h4⟩

/-- the same where the top left finished generators (o_head chose holds_openN): nothing may have changed at all and no generator may be left -/
theorem attachN {l : OpenLaw} {n : Nat} {q : Program} {loose : List Str} {XP : (Str → Option Value) → Heap → Prop} {YP : World → Heap → Prop} {d : DefRec} {x : Str}
    (hn : l.most = some n) (hdf : d.params.defaults = [])
    (hbind : ∀ pm cd doc v : Value, bindArgs (docDef d.name d.params d.body d.scope pm cd doc) ⟨[v], []⟩ = pure [(x, v)])
    (hx : d.scope.names.lookup x = some .local ∨ d.scope.names.lookup x = some .cell)
    (hk : d.scope.kind = .function) (hco : d.scope.isCoroutine = false) (hgen : d.scope.isGenerator = false)
    (body : ∀ (w : World) (s₀ s₁ s : Shared) (mg mb : Str → Option Value) (fa : Addr) (o : Obj) (pm cd doc : Value) (a : Addr) (vs : List Value) (ns : List Int),
      Ground q loose [] XP w s₀ mg mb s₁.heap → YP w s₁.heap →
      s₁.heap.get? fa = some o → o.data = .func (docDef d.name d.params d.body d.scope pm cd doc) → s₁.heap.CodeRec cd d.name → mg d.name = some (.ref fa) →
      s₁.heap.get? a = some { cls := .type "list", data := .seq vs.toArray } → IntsAre vs ns → ns.length ≤ n →
      s.gens = #[] → s.os = s₁.os →
      Fr s₁.heap s₁.heap.objs.size s.heap (bindL (envOfC d.name d.scope s₁.heap.objs.size fa cd).kindOf [(x, .ref a)] fun _ => none) →
      Cl s₁.heap.objs.size (cellsFrom (s₁.heap.objs.size + 1) d.scope.names []) s.heap (bindC (envOfC d.name d.scope s₁.heap.objs.size fa cd).kindOf [(x, .ref a)] fun _ => none) →
      wpAny (model l.prog w) (callerA.deeper (envOfC d.name d.scope s₁.heap.objs.size fa cd)) (execs d.body (envOfC d.name d.scope s₁.heap.objs.size fa cd))
        (fun f s' => f = .ret (.bool true) ∧ (∀ b o, s₁.heap.get? b = some o → s'.heap.get? b = some o) ∧ s'.os = s₁.os ∧ s'.gens = #[]) (fun _ _ => False) s) :
    WalkN q loose XP YP l.row.toRowW d [] (fun f vs => PySem.call f vs) := by
  intro w s₀ s₁ mg mb G Y fa o pm cd doc dV kV ho hd hcd hD hmg hg args vals as hpre hlay hrd hwl hlo
  obtain rfl : dV = .none := Dflts.none hD hdf
  obtain rfl : kV = .none := Dflts.noKw hD
  obtain ⟨a, vs, ns, rfl, rfl, hobj, hints, hlen⟩ := script_of hn hpre hwl
  refine enter_callW ?_
  refine call_cells_ret (o := o) (by rw [depth_caller]; decide) ho (fd_plain hd) G.T.nolimit hcd (hbind pm cd doc (.ref a)) (fun y hy => ?_) (fun h₁ tk F X => ?_) hco hgen hk
  · obtain rfl : y = (x, Value.ref a) := List.mem_singleton.mp hy
    rcases hx with e | e
    · exact .inl e
    · exact .inr ⟨e, cellsFrom_some _ _ _ (.inl e)⟩
  · refine wpAny_mono (body w s₀ s₁ { s₁ with heap := h₁, toks := tk } mg mb fa o pm cd doc a vs ns G Y ho (fd_plain hd) hcd hmg hobj hints hlen hg rfl F X) (fun f s' hq => ?_) (fun _ _ hq => hq)
    obtain ⟨rfl, h2, h3, h4⟩ := hq
    exact ⟨.inl ⟨.bool true, .bool true, [], rfl, fun _ => rfl, .bool true, post_true l _, fun _ => ⟨List.Pairwise.nil, fun _ hm => (nomatch hm)⟩⟩, h2, h3, h4⟩

/-! ### rules over ANY heap (no ledger) from facts about the written part K: the library's own take a ledger (News) for what they write -/
section
variable {prog : Program} {w : World} {A : Around} {E : Value → Shared → Prop} {s : Shared} {K : Frag}

/-- a def of the module, or a method (qual 'C.m'), entered: the frame is the next address; cells behind it -/
theorem call_fn {R : Result → Shared → Prop} {name qual : Str} {params : Arguments} {body : List Stmt} {scope : Scope} {dV kV doc pm cdv ct oc : Value} {an od : Option Addr} {osl : Array (Option Value)} {f : Addr} {args : Args} {binds : List (Str × Value)}
    (X : K.In s.heap) (hlim : s.heap.NoLimit) (ho : K.lookup f = some ⟨oc, od, .func (fnOf name qual params body scope dV kV doc pm an cdv ct), osl⟩) (hcd : codeIn K cdv qual = true) (hroom : A.depth < recursionLimit)
    (hbind : BindsTo s (fnOf name qual params body scope dV kV doc pm an cdv ct) args binds)
    (hkind : (binds.all fun y => scope.names.lookup y.1 == some .local || scope.names.lookup y.1 == some .cell) = true)
    (h : ∀ s₁, InCallC s s.heap.objs.size (bindL (envOfC qual scope s.heap.objs.size f cdv).kindOf binds fun _ => none) (cellsFrom (s.heap.objs.size + 1) scope.names [])
        (bindC (envOfC qual scope s.heap.objs.size f cdv).kindOf binds fun _ => none) s₁ →
      wpAny (model prog w) (A.deeper (envOfC qual scope s.heap.objs.size f cdv)) (execs body (envOfC qual scope s.heap.objs.size f cdv))
        (fun fl s' => R (.ok (.ret (match fl with | .ret v => v | _ => .none))) s')
        (fun e s' => wpAny (model prog w) (A.deeper (envOfC qual scope s.heap.objs.size f cdv)) (leaving (envOfC qual scope s.heap.objs.size f cdv) e) (fun _ s'' => R (.error e) s'') (fun e' s'' => R (.error e') s'') s') s₁)
    (hco : scope.isCoroutine = false) (hgen : scope.isGenerator = false) (hk : scope.kind = .function) : codeAny (model prog w) A (.call (.ref f) args) R s := by
  refine codeAny_call_function hroom (X _ _ ho) rfl hco hgen rfl (codeRec_of X hcd) (hbind _ _ _ _ ?_)
  refine wpAny_newFunctionEnv_cells hk (kindsX hkind _) fun env he s₁ x => ?_
  subst he
  exact ⟨hlim.keeps x.toInCall.keep, codeAny_func (h s₁ x)⟩

/-- C(..): dict at size, instance at size + 1, then __init__ -/
theorem make_obj {R : Result → Shared → Prop} {C fI : Addr} {rest : List Value} {kw : List (Str × Value)}
    (X : K.In s.heap) (hm : makesIn K C = true) (hi : findIn K (.ref C) "__init__" = some (some (.ref fI))) (hf : isFn K (.ref fI) = true)
    (h : codeAny (model prog w) (A.under (.builtin "type.__call__" ⟨.ref C :: rest, kw⟩)) (.call (.ref fI) ⟨.ref (s.heap.objs.size + 1) :: rest, kw⟩) (InitBack (s.heap.objs.size + 1) R)
      { s with heap := (s.heap.push emptyDict).push (instObj C s.heap.objs.size) }) : codeAny (model prog w) A (.call (.ref C) ⟨rest, kw⟩) R s := by
  obtain ⟨hh, g, d, t, os⟩ := s
  exact make_core (makes_of X hm) (looks_findIn X hi) (fun self => bind_fn X self (beq_iff_eq.mp hf)) (.inl rfl) h

/-- x.name where the instance's dict holds the name and the class does not -/
theorem get_field {x C : Addr} {ox : Obj} {es : List DictEntry} {n : Nat} {name : Str} {expr : Bool} {v : Value} {Q : Value → Shared → Prop}
    (X : K.In s.heap) (I : PySem.W.InstAt s.heap x ox C (some (dictOf es n))) (hg : plainGet K C name = true) (hh : hasDictIn K C = true) (ha : findIn K (.ref C) name = some none)
    (hl : getL name es = some (some v)) (hv : handedIn v = true) (h : Q v { s with toks := s.toks + 1 }) : wpAny (model prog w) A (getAttr (.ref x) name expr) Q E s :=
  get_value X I (plainGet_of hg).1 (findObj_own hh ha rfl hl) hv h

/-- x.m(..): the method found in the class -/
theorem get_method {x C f : Addr} {ox : Obj} {es : List DictEntry} {n : Nat} {name : Str} {pl : Sem Bool} {Q : Value × List Value → Shared → Prop}
    (X : K.In s.heap) (I : PySem.W.InstAt s.heap x ox C (some (dictOf es n))) (hg : plainGet K C name = true) (hf : findIn K (.ref C) name = some (some (.ref f))) (ht : isFn K (.ref f) = true)
    (hl : getL name es = some none) (h : Q (.ref f, [.ref x]) s) : wpAny (model prog w) A (getMethod (.ref x) name pl) Q E s :=
  method_fn X I (plainGet_of hg).1 (plainGet_of hg).2 hf (beq_iff_eq.mp ht) (by show (lookIn name (dictOf es n)).map _ = _; rw [lookIn_dict, hl]; rfl) h

/-! the whole heap as the ledger: makes every rule that writes through a ledger a rule over any heap -/
def noObjs (h : Heap) : Heap := { h with objs := #[] }
theorem noObjs_get (h : Heap) (b : Addr) : (noObjs h).get? b = none := by
  cases e : (noObjs h).get? b with
  | none => rfl
  | some o => exact absurd (Heap.lt_size e) (Nat.not_lt_zero _)
def ledger (h : Heap) (L d : Addr) : List (Addr × Obj) := (List.range h.objs.size).filterMap fun a => if a = L ∨ a = d then none else (h.get? a).map fun o => (a, o)
theorem mem_ledger {h : Heap} {L d a : Addr} {o : Obj} : (a, o) ∈ ledger h L d ↔ a ≠ L ∧ a ≠ d ∧ h.get? a = some o := by
  unfold ledger
  rw [List.mem_filterMap]
  constructor
  · rintro ⟨b, _, e⟩
    split at e
    · cases e
    · rename_i hb
      obtain ⟨o', ho, e'⟩ := Option.map_eq_some_iff.mp e
      cases e'
      exact ⟨fun q => hb (.inl q), fun q => hb (.inr q), ho⟩
  · rintro ⟨n1, n2, ho⟩
    refine ⟨a, List.mem_range.mpr (Heap.lt_size ho), ?_⟩
    rw [if_neg (show ¬ (a = L ∨ a = d) from fun q => q.elim n1 n2), ho] <;> rfl
theorem news_ledger {h : Heap} {L d : Addr} {od : Obj} (hne : d ≠ L) (ho : h.get? d = some od) : News (noObjs h) L h ([] ++ (d, od) :: ledger h L d) := by
  rintro ⟨a, o⟩ hp
  rcases List.mem_cons.mp hp with e | hp
  · cases e
    exact ⟨ho, hne, noObjs_get _ _⟩
  · obtain ⟨n1, n2, e⟩ := mem_ledger.mp hp
    exact ⟨e, n1, noObjs_get _ _⟩
theorem fr_all {h : Heap} {L : Addr} {m : Str → Option Value} (n : h.Ns L m) : Fr (noObjs h) L h m :=
  ⟨n, fun b o e => (by rw [noObjs_get] at e; cases e), Nat.zero_le _⟩
/-- Upd of the head entry (for append_K, setItem_K ..) -/
theorem upd_ledger {h : Heap} {L d : Addr} {o o' : Obj} : Upd d o o' ((d, o) :: ledger h L d) ((d, o') :: ledger h L d) :=
  .head fun ⟨_, _⟩ hp => (mem_ledger.mp hp).2.1

/-- x.name = v over any heap: L is any namespace of the heap (the frame's, say): its map stays, its object is not told; all else but the dict stays -/
theorem set_field {x C dx L : Addr} {ox : Obj} {m : Str → Option Value} {es es' : List DictEntry} {n n' : Nat} {name : Str} {v : Value} {Q : Unit → Shared → Prop}
    (X : K.In s.heap) (I : PySem.W.InstAt s.heap x ox C (some (dictOf es n))) (hd : ox.dict = some dx) (hL : s.heap.Ns L m) (hne : dx ≠ L)
    (hs : findIn K (.ref C) "__setattr__" = some (some (.builtin "object.__setattr__"))) (hp : plainOver K C = true) (ht : takerIn K C name = some none) (hh : hasDictIn K C = true) (hl : (getL name es).isSome = true)
    (e : (putL name (PyData.keyHash w.params name) (.str name (s.toks + 1)) v es, putN name es n) = (es', n')) (hz : es'.length ≤ 1000)
    (h : ∀ h' : Heap, h'.Ns L m → h'.get? dx = some (dictOf es' n') → (∀ b o, b ≠ dx → b ≠ L → s.heap.get? b = some o → h'.get? b = some o) → Q () { s with heap := h', toks := s.toks + 2 }) :
    wpAny (model prog w) A (setAttr (.ref x) name v) Q E s := by
  obtain ⟨e1, e2⟩ := Prod.mk.inj e
  have hdx : s.heap.get? dx = some (dictOf es n) := by
    have := I.dict
    rw [hd] at this
    exact this
  refine set_plain X I hs (osa_dict (s := { s with toks := s.toks + 1 }) (h₀ := noObjs s.heap) (L := L) (m := m) (od := dictOf es n) (od' := dictOf es' n') (es := es') (n := n') (pre := []) (post := ledger s.heap L dx)
    (fr_all hL) (news_ledger hne hdx) X I hd hp ht hh hl (fun _ q => nomatch q) (fun ⟨_, _⟩ q => (mem_ledger.mp q).2.1) (by rw [putName_dict, e1, e2]) rfl hz fun h' F' N' => ?_)
  exact h h' F'.ns (N'.get (List.Mem.head _)) fun b o n1 n2 ho => N'.get (List.Mem.tail _ (mem_ledger.mpr ⟨n2, n1, ho⟩))
end
end Att

namespace L2
open PySem PySem.Spec PyProof.Rows

theorem vals_ints : ∀ {vs : List Value} {ns : List Int}, IntsAre vs ns → Vals (ns.map V.int) vs
  | _, _, .nil => .nil
  | _, _, .cons n t h => .cons ⟨t, rfl⟩ (vals_ints h)

/-- nothing is tracked but the script, known to the object (or it is an object of the module) -/
def Only (H : Hp) : Prop := ∀ b, H b = none ∨ ∃ o xs, H b = some (.frz o (.lst xs))

/-- THE HEAD: the law's promise, at the heap behind the top. F, the promise of the law's def, may use that base is part of the heap (so K.In base, base.Ns mainGlobals mg stand in Mod) -/
theorem law_call {P : Program} {w : World} {K : PySem.W.Frag} {mg mb : Str → Option Value} {CX : CXT} {k : Nat} {fa a : Addr} {fd : FuncData} {x : Str} {sp : Sp} {s₁ : Shared} {vs : List Value} {ns : List Int}
    (KX : K.In s₁.heap) (hns : s₁.heap.Ns mainGlobals mg) (hb : s₁.heap.Ns builtinsNs mb) (hbb : ∀ x : Str, x ≠ "__name__" → mb x = bootBuiltins x) (hlim : s₁.heap.NoLimit) (hg : s₁.gens = #[])
    (ha : s₁.heap.get? a = some { cls := .type "list", data := .seq vs.toArray }) (hi : IntsAre vs ns) (hl : ns.length ≤ sizeLine) (hr : Room k callerA)
    (F : ∀ base : Heap, K.In base → base.Ns mainGlobals mg → FnOk P w K mg base CX k fa fd [x] sp) (hbind : ∀ (s : Shared) (u : Value), BindsTo s fd ⟨[u], []⟩ [(x, u)])
    (hsp : ∀ H : Hp, Only H → SqL K H a (ns.map V.int) → sp [.ref a] H (fun v _ => v = .bl true) fun _ _ _ => False)
    (hCX : ∀ H e s', CX [] H s₁ (fun _ _ _ => False) e s' → False) :
    codeAny (model P w) callerA (.call (.ref fa) ⟨[.ref a], []⟩) (fun r s' => r = .ok (.ret (.bool true)) ∧ OldK s₁.heap s'.heap ∧ s'.os = s₁.os ∧ AllBare s'.gens) s₁ := by
  have rv := vals_ints hi
  have lenV := hi.length
  -- from an abstract heap in which nothing but the script may be tracked
  have core : ∀ H : Hp, Only H → SqL K H a (ns.map V.int) → HOk P w H s₁.heap → (∀ b, H b ≠ none → b = a) → (H a ≠ none → K.lookup a = none) →
      codeAny (model P w) callerA (.call (.ref fa) ⟨[.ref a], []⟩) (fun r s' => r = .ok (.ret (.bool true)) ∧ OldK s₁.heap s'.heap ∧ s'.os = s₁.os ∧ AllBare s'.gens) s₁ := by
    intro H hO hS hok hA hK
    have base_of : ∀ {b : Addr} {o : Obj}, s₁.heap.get? b = some o → H b = none → (hidT s₁.heap H).get? b = some o := fun e n => hidT_get e n
    have noA : ∀ {b : Addr} {o : Obj} {es : Array DictEntry} {ep : Nat}, s₁.heap.get? b = some o → o.data = .dict es ep → H b = none := fun {b o es ep} e d => by
      cases q : H b with
      | none => rfl
      | some u =>
        have e' : b = a := hA b (by rw [q]; simp)
        subst e'
        rw [ha] at e; cases e
        have d' : Data.seq vs.toArray _ = Data.dict es ep := d
        cases d'
    have nsK : ∀ {b : Addr} {m : Str → Option Value}, s₁.heap.Ns b m → (hidT s₁.heap H).Ns b m := fun {b m} ⟨o, es, ep, e, d, r⟩ => ⟨o, es, ep, base_of e (noA e d), d, r⟩
    have hKb : K.In (hidT s₁.heap H) := fun b o e => base_of (KX b o e) (by
      cases q : H b with
      | none => rfl
      | some u =>
        have e' : b = a := hA b (by rw [q]; simp)
        subst e'
        rw [hK (by rw [q]; simp)] at e; cases e)
    have hM : Mod K mg (hidT s₁.heap H) := ⟨hKb, nsK hns, ⟨mb, nsK hb, hbb⟩, let ⟨mc, h1, h2⟩ := hlim; ⟨mc, nsK h1, h2⟩⟩
    have e0 : Env0 P w K mg (hidT s₁.heap H) callerA [] s₁ H := ⟨rfl, hM, fun b o e => of_hidT e, Nat.le_of_eq (hidT_size _ _), trivial, fun b hb => absurd (show b ∈ ([] : List Addr) from hb) (by simp), hok, .of_eq hg⟩
    refine codeAny_mono ((F _ hKb (nsK hns)).run callerA [] s₁ H ⟨[.ref a], []⟩ [.ref a] [.ref a] _ _ hr e0 (hbind s₁ (.ref a)) (.cons rfl .nil) (hsp H hO hS)) fun r s' h => ?_
    cases r with
    | error e => exact (hCX H e s' h).elim
    | ok fl =>
      cases fl with
      | next => exact False.elim h
      | brk => exact False.elim h
      | cont => exact False.elim h
      | ret u =>
        obtain ⟨v, H', os, bare, un, hok', r', q⟩ := h
        have q' : v = .bl true := q
        subst q'
        obtain rfl : u = Value.bool true := r'
        refine ⟨rfl, OldK.of_keep fun b o e => ?_, os, bare⟩
        cases q : H b with
        | none => exact un.keep b o e q (by intro z; exact absurd (show b ∈ ([] : List Addr) from z) (by simp)) (by simp)
        | some u =>
          rcases hO b with z | ⟨ob, xs, z⟩
          · rw [q] at z; cases z
          · have z2 := un.frzs b ob _ z
            obtain ⟨e1, _⟩ := hok b _ z
            obtain ⟨e2, _⟩ := hok' b _ z2
            rw [e] at e1; cases e1
            exact e2
  cases hk : K.lookup a with
  | some o =>
    -- the script is one of the module's own objects
    have e := KX a o hk
    rw [ha] at e
    cases e
    refine core (fun _ => none) (fun _ => .inl rfl) (.inr ⟨_, vs.toArray, _, hk, rfl, rfl, rfl, by rw [List.size_toArray, lenV]; exact hl, by simpa using rv⟩) (fun b u z => by have z' : (none : Option HO) = some u := z; cases z') (fun b z => absurd rfl z) fun z => absurd rfl z
  | none =>
    refine core (fun b => if b = a then some (.frz { cls := .type "list", data := .seq vs.toArray } (.lst (ns.map V.int))) else none) (fun b => ?_) (.inl (.inr ⟨{ cls := .type "list", data := .seq vs.toArray }, if_pos rfl⟩)) (fun b u z => ?_) (fun b z => ?_) fun _ => hk
    · by_cases hb : b = a
      · exact .inr ⟨_, _, if_pos hb⟩
      · exact .inl (if_neg hb)
    · by_cases hb : b = a
      · have z' := (if_pos hb).symm.trans z
        cases z'
        subst hb
        exact ⟨ha, by rw [List.length_map]; exact hl, vs, _, rv, ha⟩
      · have z' := (if_neg hb).symm.trans z
        cases z'
    · by_cases hb : b = a
      · exact hb
      · exact absurd (if_neg hb) z
end L2

namespace L2
open PySem PySem.Spec PyProof.Rows

abbrev KOf {K : PySem.W.Frag} {h : Heap} (_ : K.In h) : PySem.W.Frag := K

/-- the goal that k_head leaves (case hc), from the law's promise. F gives the function object fd (K's own) once, then the promise over every base -/
theorem walk_of {l : PySem.W.OpenLaw} {n k : Nat} {q : Program} {loose : List Str} {XP : (Str → Option Value) → Heap → Prop} {YP : World → Heap → Prop} {d : DefRec} {K : Params → PySem.W.Frag} {CX : World → CXT} {sp : World → Sp} {x : Str}
    (hn : l.most = some n) (hn2 : n ≤ sizeLine) (hdf : d.params.defaults = []) (hr : Room k callerA)
    (hY : ∀ (w : World) (h : Heap), YP w h → (K w.params).In h)
    (F : ∀ (w : World) (mg : Str → Option Value) (fa : Addr) (h : Heap), (K w.params).In h → h.Ns mainGlobals mg → mg d.name = some (.ref fa) →
      ∃ fd : FuncData, (∀ (s : Shared) (u : Value), BindsTo s fd ⟨[u], []⟩ [(x, u)]) ∧
        ∀ base : Heap, (K w.params).In base → base.Ns mainGlobals mg → FnOk l.prog w (K w.params) mg base (CX w) k fa fd [x] (sp w))
    (hsp : ∀ (w : World) (H : Hp) (a : Addr) (ns : List Int), ns.length ≤ n → Only H → SqL (K w.params) H a (ns.map V.int) → sp w [.ref a] H (fun v _ => v = .bl true) fun _ _ _ => False)
    (hCX : ∀ (w : World) (H : Hp) (s : Shared) (e : Value) (s' : Shared), CX w [] H s (fun _ _ _ => False) e s' → False) :
    PySem.W.WalkO q loose XP YP l.row.toRowW d [] (fun f vs => PySem.call f vs) := by
  refine Att.attach_call hn hdf fun w s₀ s₁ mg mb fa o pm cd doc a vs ns G Y ho hd hcd hmg hobj hints hlen hg => ?_
  have KX := hY w _ Y
  obtain ⟨fd, hb, hF⟩ := F w mg fa _ KX G.T.g hmg
  exact law_call KX G.T.g G.T.b G.T.builtins G.T.nolimit hg hobj hints (Nat.le_trans hlen hn2) hr hF hb (fun H hO hS => hsp w H a ns hlen hO hS) fun H e s' => hCX w H s₁ e s'
/-- the same where the promise hangs on the written part alone: (sp := My.sp_law), no hole under a binder -/
theorem walk_ofK {l : PySem.W.OpenLaw} {n k : Nat} {q : Program} {loose : List Str} {XP : (Str → Option Value) → Heap → Prop} {YP : World → Heap → Prop} {d : DefRec} {K : Params → PySem.W.Frag} {CX : CXT} {sp : PySem.W.Frag → Sp} {x : Str}
    (hn : l.most = some n) (hn2 : n ≤ sizeLine) (hdf : d.params.defaults = []) (hr : Room k callerA)
    (hY : ∀ (w : World) (h : Heap), YP w h → (K w.params).In h)
    (F : ∀ (w : World) (mg : Str → Option Value) (fa : Addr) (h : Heap), (K w.params).In h → h.Ns mainGlobals mg → mg d.name = some (.ref fa) →
      ∃ fd : FuncData, (∀ (s : Shared) (u : Value), BindsTo s fd ⟨[u], []⟩ [(x, u)]) ∧
        ∀ base : Heap, (K w.params).In base → base.Ns mainGlobals mg → FnOk l.prog w (K w.params) mg base CX k fa fd [x] (sp (K w.params)))
    (hsp : ∀ (K : PySem.W.Frag) (H : Hp) (a : Addr) (ns : List Int), ns.length ≤ n → Only H → SqL K H a (ns.map V.int) → sp K [.ref a] H (fun v _ => v = .bl true) fun _ _ _ => False)
    (hCX : ∀ (H : Hp) (s : Shared) (e : Value) (s' : Shared), CX [] H s (fun _ _ _ => False) e s' → False) :
    PySem.W.WalkO q loose XP YP l.row.toRowW d [] (fun f vs => PySem.call f vs) :=
  walk_of (K := K) (CX := fun _ => CX) (sp := fun w => sp (K w.params)) hn hn2 hdf hr hY F (fun w H a ns h1 h2 h3 => hsp (K w.params) H a ns h1 h2 h3) fun _ H s e s' => hCX H s e s'
end L2

/- THE LAST THEOREM (shape; LID, My.* are yours):
   My.Adr: a structure of the addresses that your layer names (classes, functions); My.Txt K t: a structure (Prop) of the equations over K;
   My.txt_mk : {K} {implicit addresses ..} (e1 : nsIn K mainGlobals "law" = some (some (.ref f))) (e2 : K.lookup f = some ⟨oc, od, .func (fnOf "law" "law" params body scope dV kV doc pm an cdv ct), sl⟩) (e3 : codeIn K cdv "law" = true) .. : ∃ t, My.Txt K t

set_option maxRecDepth 100000 in
set_option maxHeartbeats 0 in
theorem PySem.Challenge.cw_LID_holds : PySem.Challenge.rw_LID.Holds := by
  w_on; o_law; k_head; (case hw => w_witness2)
  k_fill
  refine L2.walk_of (l := PySem.Challenge.rw_LID) (n := 63) (k := 40) (x := "script") (CX := fun w => ..) (sp := fun _ => My.sp_law) rfl (by decide) rfl ⟨rfl, by decide, by decide⟩ (fun w h Y => PySem.W.kIn_of Y) ?F ?S ?C
  case F =>
    intro w mg fa h KX G hmg
    have T : ∃ t, My.Txt (L2.KOf KX) t := by
      dsimp only [L2.KOf]                          -- K must stand as «<heap const> w.params» for k_is
      refine' My.txt_mk ?e1 ?e2 ?e3 ..
      (case e1 => PySem.W.k_is)                    -- in the order: a name -> its address -> its object -> its parts
      (case e2 => PySem.W.k_is)
      ..
    obtain ⟨t, T⟩ := T
    have e0 := hmg.symm.trans (PySem.W.mg_of KX G T.law)
    cases e0                                       -- fa is the law's own address
    exact ⟨_, fun s u => .of_eq rfl, fun base kb nb => My.law_fn T kb nb⟩     -- if «.of_eq rfl» comes too early: refine' ⟨_, ?b, fun base kb nb => My.law_fn T kb nb⟩; exact fun s u => .of_eq rfl
  case S => exact fun w H a ns hl hO hS => ..
  case C => exact ..
(the tactic k_is has no namespace: write k_is) -/

/-! SHORT WORDS over the layer: a def of the text, its body, what a loop and a test want. -/
namespace L2
open PySem PySem.Spec PyProof.Rows

/-! ### the text by places -/
/-- the j-th statement of a class's body -/
def inClass (s : Stmt) (j : Nat) : Stmt := match s with
  | .ClassDef _ _ _ body _ _ _ _ _ _ _ => body.getD j (.Pass ⟨0, 0, 0, 0⟩)
  | _ => .Pass ⟨0, 0, 0, 0⟩
def defArgs (s : Stmt) : Arguments := match s with
  | .FunctionDef _ a _ _ _ _ _ _ _ _ => a
  | _ => { posonlyargs := [], args := [], vararg := none, kwonlyargs := [], kw_defaults := [], kwarg := none, defaults := [] }
def defBody (s : Stmt) : List Stmt := match s with
  | .FunctionDef _ _ b _ _ _ _ _ _ _ => b
  | _ => []
def defScope (s : Stmt) : Scope := match s with
  | .FunctionDef _ _ _ _ _ _ sc _ _ _ => sc
  | _ => { kind := .function, names := [], isGenerator := false, isCoroutine := false }

/-! ### no exception leaves a def -/
abbrev CX0 : CXT := fun _ _ _ _ _ _ => False
abbrev E0 : XK := fun _ _ _ => False
theorem pass0 {X : Cx} : Passes CX0 X E0 := fun _ _ _ _ _ _ _ h => h.elim

/-! ### a def (or method) of the text as it stands behind the top -/
structure Fun (K : PySem.W.Frag) (x qual : Str) (st : Stmt) (f : Addr) (fd : FuncData) : Prop where
  ex : ∃ (oc : Value) (od : Option Addr) (kV doc pm : Value) (an : Option Addr) (cdv ct : Value) (osl : Array (Option Value)),
    fd = PySem.W.fnOf x qual (defArgs st) (defBody st) (defScope st) .none kV doc pm an cdv ct ∧ K.lookup f = some ⟨oc, od, .func fd, osl⟩ ∧ PySem.W.codeIn K cdv qual = true
  kp : PySem.W.keepIn K (.ref f) = true
section
variable {P : Program} {w : World} {K : PySem.W.Frag} {mg : Str → Option Value} {base : Heap}
/-- THE RULE for a def: its body as a term of rules, and the reading of that term -/
theorem Fun.ok {x qual : Str} {st : Stmt} {f : Addr} {fd : FuncData} {N ps : List Str} {k : Nat} {sp : Sp} (F : Fun K x qual st f fd) (S : FnScope N ps (defScope st)) (len : ∀ vs H Q E, sp vs H Q E → vs.length = ps.length)
    (hbody : ∀ (cdv : Value) (A : Around) (outer : List Env) (s : Shared) (H : Hp) (vs : List V) (Q : VK) (E : XK), Room k (A.deeper (envOfC qual (defScope st) s.heap.objs.size f cdv)) → sp vs H Q E →
      ∃ t, PSs (cxOf CX0 P w K mg base N qual (defScope st) f cdv A outer s H E).nox (defBody st) t ∧ t { nx := fun _ H' => Q .non H', rt := Q } (start N vs) H) : FnOk P w K mg base CX0 (k + 1) f fd ps sp := by
  obtain ⟨oc, od, kV, doc, pm, an, cdv, ct, osl, rfl, lk, hcd⟩ := F.ex
  refine fn_of lk hcd S len fun A outer s H vs Q E hr hsp => ?_
  obtain ⟨t, h, q⟩ := hbody cdv A outer s H vs Q E hr hsp
  exact ⟨t, h.nox, q⟩
/-- how its arguments bind (no defaults): h is «fun _ _ _ _ _ _ us hl => match us, hl with | [_, _], _ => rfl», one _ a parameter -/
theorem Fun.binds {x qual : Str} {st : Stmt} {f : Addr} {fd : FuncData} {ps : List Str} (F : Fun K x qual st f fd)
    (h : ∀ (kV doc pm : Value) (an : Option Addr) (cdv ct : Value) (us : List Value), us.length = ps.length → bindArgs (PySem.W.fnOf x qual (defArgs st) (defBody st) (defScope st) .none kV doc pm an cdv ct) ⟨us, []⟩ = pure (ps.zip us)) : Binds K fd ps [] := by
  obtain ⟨oc, od, kV, doc, pm, an, cdv, ct, osl, rfl, lk, hcd⟩ := F.ex
  exact .all (h kV doc pm an cdv ct)
theorem fun_mk {x qual : Str} {st : Stmt} {f : Addr} {oc : Value} {od an : Option Addr} {osl : Array (Option Value)} {kV doc pm cdv ct : Value} (l : K.lookup f = some ⟨oc, od, .func (PySem.W.fnOf x qual (defArgs st) (defBody st) (defScope st) .none kV doc pm an cdv ct), osl⟩)
    (c : PySem.W.codeIn K cdv qual = true) (k : PySem.W.keepIn K (.ref f) = true) : Fun K x qual st f (PySem.W.fnOf x qual (defArgs st) (defBody st) (defScope st) .none kV doc pm an cdv ct) := ⟨⟨oc, od, kV, doc, pm, an, cdv, ct, osl, rfl, l, c⟩, k⟩
end
theorem hu_of {A : Around} {k : Nat} (hr : Room k A) : A.units + 1 < cLine := Nat.lt_of_le_of_lt (Nat.add_le_add_left (by decide : 1 ≤ 64) _) hr.units
theorem small1000 {n : Nat} (h : n ≤ 1000) : n < sizeLine := Nat.lt_of_le_of_lt h (by decide)

/-! ### expressions in short: the name that stands in the i-th slot -/
section
variable {X : Cx}
theorem pv (i : Nat) {x : Str} {pos : Pos} (hN : X.N[i]? = some x := by rfl) (hv : Vis X.env.scope x := by first | exact Or.inl rfl | exact Or.inr (Or.inl rfl) | exact Or.inr (Or.inr rfl)) (hd : (x == ("__debug__" : Str)) = false := by decide)
    (hcd : (x == ("__classdict__" : Str)) = false := by decide) : PE X (.Name x pos) (tVar i) := pe_var hN hv hd hcd
end

/-! ### tests -/
theorem iteF {A B : Prop} (h : B) : if false = true then A else B := by
  rw [if_neg Bool.false_ne_true]
  exact h
theorem iteT {A B : Prop} (h : A) : if true = true then A else B := by
  rw [if_pos rfl]
  exact h
theorem ite2 {c A B : Prop} [Decidable c] (h1 : c → A) (h2 : ¬ c → B) : if c then A else B := by
  by_cases h : c
  · rw [if_pos h]
    exact h1 h
  · rw [if_neg h]
    exact h2 h
theorem iteNS {c A B : Prop} [Decidable c] (hc : c) (h : B) : if (!decide c) = true then A else B := by
  rw [decide_eq_true hc]
  exact iteF h

/-! ### heaps -/
/-- all that was tracked is as it was -/
def Same (H H' : Hp) : Prop := ∀ b o, H b = some o → H' b = some o
theorem Same.refl (H : Hp) : Same H H := fun _ _ h => h
theorem Same.trans {H H1 H2 : Hp} (a : Same H H1) (b : Same H1 H2) : Same H H2 := fun c o h => b c o (a c o h)
theorem Same.free {H H' : Hp} (e : Same H H') {l : Addr} (h : H' l = Option.none) : H l = Option.none := by
  cases q : H l with
  | none => rfl
  | some o =>
    rw [e l o q] at h
    cases h
theorem Same.seq {K : PySem.W.Frag} {H H' : Hp} {a : Addr} {xs : List V} (e : Same H H') (h : SqL K H a xs) : SqL K H' a xs := by
  rcases h with (h | ⟨o, h⟩) | h
  · exact .inl (.inl (e _ _ h))
  · exact .inl (.inr ⟨o, e _ _ h⟩)
  · exact .inr h

end L2
/-! ### what a comprehension's names are -/
namespace PySem
open Sem (wp)
def relab (env : Env) (p : Str × NameKind) : Str × NameKind := if (p.2 == NameKind.free && env.scope.kind == .function && env.kindOf p.1 == some .cell) = true then (p.1, NameKind.cell) else (p.1, p.2)
theorem relabel_names (scope : Scope) (env : Env) : (relabel scope env).names = scope.names.map (relab env) := rfl
theorem relab_fst (env : Env) (p : Str × NameKind) : (relab env p).1 = p.1 := by unfold relab; split <;> rfl
theorem relab_lookup (env : Env) : ∀ (names : List (Str × NameKind)) (x : Str), (names.map (relab env)).lookup x = (names.lookup x).map fun k => (relab env (x, k)).2
  | [], _ => rfl
  | (n, k) :: r, x => by
    have ih := relab_lookup env r x
    rw [List.map_cons]
    rw [show relab env (n, k) = ((relab env (n, k)).1, (relab env (n, k)).2) from rfl, relab_fst, List.lookup_cons, List.lookup_cons]
    cases hx : x == n with
    | true =>
      have := eq_of_beq hx
      subst this
      rfl
    | false => exact ih
theorem relab_kind (env : Env) (x : Str) (k : NameKind) : (relab env (x, k)).2 = k ∨ (k = .free ∧ (relab env (x, k)).2 = .cell) := by
  unfold relab
  split
  · rename_i h
    have q := (Bool.and_eq_true_iff.mp (Bool.and_eq_true_iff.mp h).1).1
    exact .inr ⟨eq_of_beq q, rfl⟩
  · exact .inl rfl
theorem closure_go (env : Env) : ∀ (names : List (Str × NameKind)) (cs : List (Str × Addr)),
    (∀ y ∈ names, y.2 = .free → ∃ c, env.cells.lookup y.1 = some c) → (∀ y c, cs.lookup y = some c → env.cells.lookup y = some c) →
    ∃ cl, (forIn names cs (fun (x : Str × NameKind) (r : List (Str × Addr)) => if (x.2 == NameKind.free) = true then (do let a ← cellOf env x.1; pure (ForInStep.yield ((x.1, a) :: r))) else pure (ForInStep.yield r)) : Sem (List (Str × Addr))) = pure cl ∧
      (∀ y c, cl.lookup y = some c → env.cells.lookup y = some c) ∧ (∀ y, (cs.lookup y).isSome = true → (cl.lookup y).isSome = true) ∧ ∀ y ∈ names, y.2 = .free → (cl.lookup y.1).isSome = true
  | [], cs, _, h2 => ⟨cs, rfl, h2, fun _ h => h, fun _ h => nomatch h⟩
  | (n, k) :: r, cs, h1, h2 => by
    by_cases hk : k = .free
    · subst hk
      obtain ⟨c, hc⟩ := h1 (n, .free) List.mem_cons_self rfl
      have hc : env.cells.lookup n = some c := hc
      have h3 : ∀ y d, ((n, c) :: cs).lookup y = some d → env.cells.lookup y = some d := fun y d e => by
        rw [List.lookup_cons] at e
        cases q : y == n with
        | true => rw [q] at e; cases e; rw [eq_of_beq q]; exact hc
        | false => rw [q] at e; exact h2 y d e
      obtain ⟨cl, e, a1, a2, a3⟩ := closure_go env r ((n, c) :: cs) (fun y hy => h1 y (List.mem_cons_of_mem _ hy)) h3
      refine ⟨cl, ?_, a1, fun y hy => a2 y ?_, fun y hy hf => ?_⟩
      · rw [List.forIn_cons]
        have : cellOf env n = pure c := by unfold cellOf; rw [hc]
        simp only [this, beq_self_eq_true, if_true]
        exact e
      · rw [List.lookup_cons]; split
        · rfl
        · exact hy
      · rcases List.mem_cons.mp hy with z | z
        · subst z; exact a2 n (by rw [List.lookup_cons]; simp)
        · exact a3 y z hf
    · obtain ⟨cl, e, a1, a2, a3⟩ := closure_go env r cs (fun y hy => h1 y (List.mem_cons_of_mem _ hy)) h2
      refine ⟨cl, ?_, a1, a2, fun y hy hf => ?_⟩
      · rw [List.forIn_cons]
        have : (k == NameKind.free) = false := by simpa using hk
        simp only [this, Bool.false_eq_true, if_false]
        exact e
      · rcases List.mem_cons.mp hy with z | z
        · subst z; exact absurd hf hk
        · exact a3 y z hf
theorem closure_ex {scope : Scope} {env : Env} (h : ∀ y ∈ scope.names, y.2 = .free → ∃ c, env.cells.lookup y.1 = some c) :
    ∃ cl, closureFor scope env = pure cl ∧ (∀ y c, cl.lookup y = some c → env.cells.lookup y = some c) ∧ ∀ y ∈ scope.names, y.2 = .free → (cl.lookup y.1).isSome = true := by
  obtain ⟨cl, e, a1, _, a3⟩ := closure_go env scope.names [] h (fun y c e => by simp at e)
  refine ⟨cl, ?_, a1, a3⟩
  have e2 : closureFor scope env = ((forIn scope.names [] (fun (x : Str × NameKind) (r : List (Str × Addr)) => if (x.2 == NameKind.free) = true then (do let a ← cellOf env x.1; pure (ForInStep.yield ((x.1, a) :: r))) else pure (ForInStep.yield r)) : Sem (List (Str × Addr))) >>= fun z => pure z) := rfl
  rw [e2, e]
  rfl
end PySem

/-! ### list comprehensions of one clause -/
namespace L2
open PySem PySem.Spec PyProof.Rows

/-- the block's context: no exception leaves it -/
def cxComp (X : Cx) (scope : Scope) (cl : List (Str × Addr)) (C : Addr) (N : List Str) (s : Shared) (H : Hp) (fp : List Addr) : Cx :=
  { X with N := N, s₀ := s, H₀ := H, env := compEnvC scope cl C X.env, outer := X.stack, ex := fp, fn := fun _ => false, pn := [], xe := fun _ _ => False }
/-- the names of the block: its own one, then those of the def that it reads (in the slots js there) -/
def jsOk (osc : Scope) (N : List Str) (scope : Scope) : List Nat → List Str → Bool
  | [], [] => true
  | j :: js, y :: ys => decide (N[j]? = some y) && decide (scope.names.lookup y = some .free) && decide (osc.names.lookup y = some .cell ∨ osc.names.lookup y = some .free) && jsOk osc N scope js ys
  | _, _ => false
def compOk (osc : Scope) (N : List Str) (scope : Scope) (x : Str) (js : List Nat) (fr : List Str) : Bool :=
  jsOk osc N scope js fr && decide (∀ y ∈ scope.names, y.2 = .free → osc.names.lookup y.1 = some .cell ∨ osc.names.lookup y.1 = some .free) && decide (∀ y ∈ scope.names, y.2 ≠ .cell) && decide (scope.kind = .function) &&
    decide (∀ y ∈ scope.names, y.2 = .local → scope.names.lookup y.1 = some .local) && decide (scope.names.lookup x = some .local) && decide (x :: fr).Nodup
structure CompOk (X : Cx) (scope : Scope) (x : Str) (js : List Nat) (fr : List Str) : Prop where
  js : jsOk X.env.scope X.N scope js fr = true
  free : ∀ y ∈ scope.names, y.2 = .free → X.env.kindOf y.1 = some .cell ∨ X.env.kindOf y.1 = some .free
  cell : ∀ y ∈ scope.names, y.2 ≠ .cell
  kind : scope.kind = .function
  names : ∀ y ∈ scope.names, y.2 = .local → scope.names.lookup y.1 = some .local
  own : scope.names.lookup x = some .local
  nd : (x :: fr).Nodup
theorem comp_ok {X : Cx} {scope : Scope} {x : Str} {js : List Nat} {fr : List Str} (osc : Scope) (N : List Str) (h : compOk osc N scope x js fr = true) (e1 : X.env.scope = osc := by rfl) (e2 : X.N = N := by rfl) : CompOk X scope x js fr := by
  subst e1; subst e2
  unfold compOk at h
  simp only [Bool.and_eq_true] at h
  obtain ⟨⟨⟨⟨⟨⟨a1, a2⟩, a3⟩, a4⟩, a5⟩, a6⟩, a7⟩ := h
  exact ⟨a1, of_decide_eq_true a2, of_decide_eq_true a3, of_decide_eq_true a4, of_decide_eq_true a5, of_decide_eq_true a6, of_decide_eq_true a7⟩
theorem jsOk_at {osc : Scope} {N : List Str} {scope : Scope} : ∀ {js : List Nat} {ys : List Str}, jsOk osc N scope js ys = true → ∀ (k : Nat) (y : Str), ys[k]? = some y →
    ∃ j, js[k]? = some j ∧ N[j]? = some y ∧ scope.names.lookup y = some .free ∧ (osc.names.lookup y = some .cell ∨ osc.names.lookup y = some .free)
  | [], [], _, k, y, e => by simp at e
  | j :: js, z :: ys, h, k, y, e => by
    have h : (decide (N[j]? = some z) && decide (scope.names.lookup z = some .free) && decide (osc.names.lookup z = some .cell ∨ osc.names.lookup z = some .free) && jsOk osc N scope js ys) = true := h
    simp only [Bool.and_eq_true] at h
    obtain ⟨⟨⟨b1, b2⟩, b3⟩, b4⟩ := h
    cases k with
    | zero =>
      simp at e; subst e
      exact ⟨j, rfl, of_decide_eq_true b1, of_decide_eq_true b2, of_decide_eq_true b3⟩
    | succ k => simpa using jsOk_at b4 k y (by simpa using e)
  | [], _ :: _, h, _, _, _ => by cases h
  | _ :: _, [], h, _, _, _ => by cases h
theorem jsOk_len {osc : Scope} {N : List Str} {scope : Scope} : ∀ {js : List Nat} {ys : List Str}, jsOk osc N scope js ys = true → js.length = ys.length
  | [], [], _ => rfl
  | j :: js, z :: ys, h => by
    have h : (_ && jsOk osc N scope js ys) = true := h
    rw [List.length_cons, List.length_cons, jsOk_len (Bool.and_eq_true_iff.mp h).2]
  | [], _ :: _, h => by cases h
  | _ :: _, [], h => by cases h

/-- the tests of a clause -/
def PTs (X : Cx) (ifs : List Expr) (t : TT) : Prop :=
  ∀ (pins : List (Addr × Obj)) (s : Shared) (σ : St) (H : Hp) (Q : Bool → Hp → Prop), Inv X pins σ H s → t σ H Q →
    wpAny (model X.prog X.w) X.A (forIn ifs true fun c r => if r = true then do let ok ← isTrue c X.env (eval c X.env); pure (ForInStep.yield ok) else pure (ForInStep.yield r)) (TP X pins σ Q) X.xe s
def tYes : TT := fun _ H Q => Q true H
theorem pts_nil {X : Cx} : PTs X [] tYes := fun _ _ _ H _ I h => wpAny_tests_nil ⟨H, I, h⟩
theorem pts_one {X : Cx} {c : Expr} {t : TT} (h : PT X c t) : PTs X [c] t := fun pins s σ H Q I q => wpAny_tests_one (h pins s σ H Q I q)
theorem thnF {α : Type} {t : Sem α} {Q Q' : α → Shared → Prop} {M : Model} {A : Around} {E : Value → Shared → Prop} {s : Shared} (h : wpAny M A t Q (fun _ _ => False) s) (hQ : ∀ a s, Q a s → Q' a s) : wpAny M A t Q' E s := wpAny_mono h hQ fun _ _ x => x.elim

theorem same_new {H : Hp} {p : Addr} (h : H p = none) (o : HO) : Same H (upd H p o) := fun b u q => by rw [upd_ne (ne_of_none q h)]; exact q
/-- a new list has been laid: whatever the heap is that holds it and all that was tracked -/
def NewL (H : Hp) (Q : VK) (ys : List V) : Prop := ∀ p H2, H p = none → H2 p = some (.lst ys) → Same H H2 → Q (.ref p) H2
theorem NewL.upd {H : Hp} {Q : VK} {ys : List V} (h : NewL H Q ys) : ∀ p, H p = none → Q (.ref p) (L2.upd H p (.lst ys)) := fun p hp => h p _ hp upd_same (same_new hp _)
/-- what the block's state holds of the def's names -/
def seen (js : List Nat) (σ : St) : St := js.map fun j => (σ[j]?).join

theorem comp_core {X : Cx} {x : Str} {px pos : Pos} {iter elt : Expr} {ifs : List Expr} {scope : Scope} {cl : List (Str × Addr)} {tc : TT} {te : TE} {js : List Nat} {fr : List Str} {J : It} {fp : List Addr} {it : Addr} {tn : Nat → Heap → Prop}
    {pins : List (Addr × Obj)} {σ : St} {H2 : Hp} {s₂ : Shared} {E : Value → Shared → Prop} {RR : Value → Addr → Result → Shared → Prop} {Fin : List V → Hp → Prop} {W : Nat → Nat → List V → Hp → Prop} {m0 : Nat}
    (hc : X.calm = true) (ok : CompOk X scope x js fr)
    (ht : ∀ C s H, PTs (cxComp X scope cl C (x :: fr) s H fp) ifs tc) (he : ∀ C s H, PE (cxComp X scope cl C (x :: fr) s H fp) elt te)
    (c1 : ∀ y c, cl.lookup y = some c → X.env.cells.lookup y = some c) (c2 : ∀ y ∈ scope.names, y.2 = .free → (cl.lookup y.1).isSome = true)
    (I : Inv X pins σ H2 s₂) (T : Turn X.prog X.w X.K (.Name x px) J fp it tn) (t0 : tn 0 s₂.heap) (f2 : ∀ b ∈ fp, FpOk X pins H2 b) (w0 : W 0 m0 [] H2)
    (step : ∀ i m ys H, W i m ys H → ys.length ≤ sizeLine ∧ ((J.stop i H ∧ Fin ys H) ∨ (J.go i H ∧ ∃ N : List V → Hp → Prop, (∀ ys' H', N ys' H' → ∃ m', m' < m ∧ W (i + 1) m' ys' H') ∧ ∀ v H', J.yld i H v H' → tc (some v :: seen js σ) H' fun b H2 =>
      if b = true then te (some v :: seen js σ) H2 fun u H3 => N (ys ++ [u]) H3 else N ys H2)))
    (fin : ∀ (D C : Addr) (s' : Shared) (ys : List V) (H' : Hp), Fin ys H' → H' D = none → Inv X pins σ (upd H' D (.lst ys)) s' → (∃ m, s'.heap.Ns C m) → s₂.heap.objs.size ≤ C → upd H' D (.lst ys) C = none → RR (.ref D) C (.ok .next) s') :
    wpAny (model X.prog X.w) X.A (newList []) (fun acc s₃ => wpAny (model X.prog X.w) X.A (newFunctionEnv scope X.env.globals cl [] X.env.qual none .none (some X.env)) (fun cenv s₄ =>
      codeAny (model X.prog X.w) X.A (.compStart (.ListComp elt [⟨.Name x px, iter, ifs, 0⟩] scope pos) 0 (.ref it) acc { cenv with scope := relabel scope X.env }) (RR acc cenv.locals) s₄) E s₃) E s₂ := by
  refine wpAny_newObj_type (wpAny_newFunctionEnv ok.cell (by intro y hy; simp at hy) (fun h₁ hns₁ hsb₁ => ?_) ok.kind)
  dsimp only at hns₁ hsb₁ ⊢
  generalize hG : s₂.heap.push { cls := .type "list", dict := none, data := .seq ([] : List Value).toArray } = G at hns₁ hsb₁ ⊢
  have hC : G.objs.size = s₂.heap.objs.size + 1 := by rw [← hG, Heap.size_push]
  generalize hD : s₂.heap.objs.size = D at hC ⊢
  rw [hC] at hns₁ hsb₁ ⊢
  have old : ∀ b o, s₂.heap.get? b = some o → h₁.get? b = some o := fun b o e => by
    have hb : b < D := hD ▸ Heap.lt_size e
    exact hsb₁.extBut b o (Nat.ne_of_lt (Nat.lt_succ_of_lt hb)) (Heap.get?_push_of_some _ (hG ▸ Heap.get?_push_of_some _ e))
  have oD : h₁.get? D = some { cls := .type "list", data := .seq #[] 0 } := by
    refine hsb₁.extBut D _ (Nat.ne_of_lt (Nat.lt_succ_self D)) (Heap.get?_push_of_some _ ?_)
    rw [← hG, ← hD]
    exact Heap.get?_push_size _ rfl
  have ltfp : ∀ b ∈ fp, b < D := fun b hb => by
    obtain ⟨o, e, _⟩ := T.obj 0 _ t0 b hb
    rw [← hD]; exact Heap.lt_size e
  have ltc : ∀ y c, cl.lookup y = some c → c < D := fun y c e => by
    obtain ⟨v, q⟩ := I.cell y c (c1 y c e)
    rw [← hD]; exact q.lt
  -- the block's context
  have X'ok : (cxComp X scope cl (D + 1) (x :: fr) s₂ H2 fp).Ok := by
    refine ⟨I.ok.mod, ok.kind, I.ok.glob, I.ok.blt, ?_, fun y z c a b => I.ok.inj y z c (c1 y c a) (c1 z c b), fun y hy => ?_, fun _ _ z => (nomatch z), I.ok.hd, I.ok.frames, .inl rfl, fun b hb => ⟨?_, fun y c e z => ?_⟩, I.bs, Nat.le_trans I.ok.bsz I.sz, fun b o e hb => ?_, fun b hb z => ?_, I.stack, I.stkFree⟩
    · show s₂.heap.objs.size ≤ D + 1
      rw [hD]; exact Nat.le_succ D
    · have hy : (scope.names.map (relab X.env)).lookup y = some .cell ∨ (scope.names.map (relab X.env)).lookup y = some .free := hy
      have hf : (y, NameKind.free) ∈ scope.names := by
        rw [relab_lookup] at hy
        cases q : scope.names.lookup y with
        | none => rw [q] at hy; rcases hy with z | z <;> cases z
        | some k =>
          rw [q] at hy
          have q' := PySem.mem_of_lookup q
          rcases relab_kind X.env y k with r | ⟨r, _⟩
          · rcases hy with z | z
            · have z : (relab X.env (y, k)).2 = .cell := Option.some.inj z
              rw [r] at z; subst z
              exact absurd rfl (ok.cell _ q')
            · have z : (relab X.env (y, k)).2 = .free := Option.some.inj z
              rw [r] at z; subst z
              exact q'
          · subst r; exact q'
      exact Option.isSome_iff_exists.mp (c2 _ hf rfl)
    · exact Nat.ne_of_lt (Nat.lt_succ_of_lt (ltfp b hb))
    · exact (f2 b hb).2.2.2.2.1 y c (c1 y c e) z
    · have hb : b ∈ fp := hb
      rcases (f2 b hb).2.2.2.1 with z | z
      · exact I.ok.noex b o e z
      · exact absurd (Nat.lt_of_lt_of_le (Heap.lt_size e) (Nat.le_trans I.ok.bsz z)) (Nat.lt_irrefl _)
    · have z : b ∈ frs X.stack := z
      rcases List.mem_cons.mp (I.stkSub b z) with q | q
      · exact (f2 b hb).2.1 q
      · exact (f2 b hb).2.2.1 q
  have pinD : ∀ {H' : Hp} {ob : Obj} {h : Heap}, h.get? D = some ob → H' D = none → (∀ v, ob.data ≠ .cell v) → ∀ p ∈ [(D, ob)], h.get? p.1 = some p.2 ∧ H' p.1 = none ∧ p.1 ≠ (cxComp X scope cl (D + 1) (x :: fr) s₂ H2 fp).env.locals ∧ p.1 ∉ (cxComp X scope cl (D + 1) (x :: fr) s₂ H2 fp).fs ∧ ∀ v, p.2.data ≠ .cell v := by
    intro H' ob h a1 a2 a3 p hp
    have e : p = (D, ob) := by simpa using hp
    subst e
    refine ⟨a1, a2, Nat.ne_of_lt (Nat.lt_succ_self D), fun z => ?_, a3⟩
    have z : D ∈ frs X.stack := z
    rcases List.mem_cons.mp (I.stkSub D z) with q | q
    · have lt := I.lt
      rw [← q, hD] at lt
      exact absurd lt (Nat.lt_irrefl _)
    · exact I.nofs (Nat.le_of_eq hD) q
  have I1 : ∀ tk, Inv (cxComp X scope cl (D + 1) (x :: fr) s₂ H2 fp) [(D, { cls := .type "list", data := .seq #[] 0 })] (none :: seen js σ) H2 { s₂ with heap := h₁, toks := tk } := by
    intro tk
    refine ⟨X'ok, rfl, I.bare, Un.kept old, ⟨_, hns₁, fun i y v e1 e2 e3 => ?_⟩, fun y c e => ?_, I.hok.fresh (by show s₂.heap.objs.size ≤ D + 1; rw [hD]; exact Nat.le_succ D), fun y c e => I.freeC y c (c1 y c e), fun p hp => ?_, I.hok.kept old, ?_⟩
    · cases i with
      | zero => cases e2
      | succ k =>
        have e1 : fr[k]? = some y := e1
        have e2 : (seen js σ)[k]? = some (some v) := e2
        obtain ⟨j, j1, j2, j3, j4⟩ := jsOk_at ok.js k y e1
        have e4 : σ[j]? = some (some v) := by
          unfold seen at e2
          rw [List.getElem?_map, j1] at e2
          have e2 : (σ[j]?).join = some v := Option.some.inj e2
          cases q : σ[j]? with
          | none => rw [q] at e2; cases e2
          | some z => rw [q] at e2; rw [show z = some v from e2]
        obtain ⟨m, hn, hl⟩ := I.loc
        have vis : Vis X.env.scope y := .inr j4
        obtain ⟨u, r, l⟩ := hl j y v j2 e4 vis
        refine ⟨u, r, .inr ⟨?_, ?_⟩⟩
        · show (scope.names.map (relab X.env)).lookup y = some .cell ∨ (scope.names.map (relab X.env)).lookup y = some .free
          rw [relab_lookup, j3]
          rcases relab_kind X.env y .free with q | ⟨_, q⟩
          · right; exact congrArg some q
          · left; exact congrArg some q
        · rcases l with ⟨l, _⟩ | ⟨_, c, e, z⟩
          · have l : X.env.scope.names.lookup y = some .local := l
            rcases j4 with q | q
            · rw [q] at l; cases l
            · rw [q] at l; cases l
          · obtain ⟨c', e'⟩ := Option.isSome_iff_exists.mp (c2 _ (PySem.mem_of_lookup j3) rfl)
            have : c' = c := Option.some.inj ((c1 y c' e').symm.trans e)
            subst this
            obtain ⟨o, z1, z2⟩ := z
            exact ⟨c', e', o, old _ _ z1, z2⟩
    · obtain ⟨v, o, z1, z2⟩ := I.cell y c (c1 y c e)
      exact ⟨v, o, old _ _ z1, z2⟩
    · exact pinD oD (I.hok.fresh (Nat.le_of_eq hD)) (fun v z => nomatch z) p hp
    · show _ = (x :: fr).length
      rw [List.length_cons, List.length_cons, ← jsOk_len ok.js]
      unfold seen
      rw [List.length_map]
  have fpok : ∀ {H' : Hp} {ob : Obj}, (∀ b ∈ fp, H' b = none) → ∀ b ∈ fp, FpOk (cxComp X scope cl (D + 1) (x :: fr) s₂ H2 fp) [(D, ob)] H' b := fun {H' ob} hn b hb =>
    ⟨hn b hb, (X'ok.exf b hb).1, X'ok.exfs b hb, .inl hb, (X'ok.exf b hb).2, fun p hp => by
      have e : p = (D, ob) := by simpa [cxComp] using hp
      subst e
      exact Nat.ne_of_gt (ltfp b hb)⟩
  have hx' : (cxComp X scope cl (D + 1) (x :: fr) s₂ H2 fp).env.scope.names.lookup x = some .local := by
    show (scope.names.map (relab X.env)).lookup x = some .local
    rw [relab_lookup, ok.own]
    rcases relab_kind X.env x .local with q | ⟨q, _⟩
    · exact congrArg some q
    · cases q
  have loop : ∀ tk, codeAny (model X.prog X.w) X.A (.compLoop (.ListComp elt [⟨.Name x px, iter, ifs, 0⟩] scope pos) 0 (.ref it) (.ref D) (compEnvC scope cl (D + 1) X.env)) (RR (.ref D) (D + 1)) { s₂ with heap := h₁, toks := tk } := by
    intro tk
    refine codeAny_compLoop_tests (fun n s' => ∃ i ys its k o H', Inv (cxComp X scope cl (D + 1) (x :: fr) s₂ H2 fp) [(D, { cls := .type "list", data := .seq (List.toArray its) k })] (o :: seen js σ) H' s' ∧ tn i s'.heap ∧ (∀ b ∈ fp, H' b = none) ∧ Vals ys its ∧ W i n ys H') ?_ m0
      ⟨0, [], [], 0, none, H2, I1 tk, T.keep _ _ _ t0 (fun b _ o e => old b o e), fun b hb => (f2 b hb).1, .nil, w0⟩
    rintro n s' ⟨i, ys, its, k, o, H', I', st, fr', vv, w⟩
    obtain ⟨hz, r⟩ := step i n ys H' w
    rcases r with ⟨stop, q⟩ | ⟨go, N, hN, q⟩
    · refine thn (T.done (cxComp X scope cl (D + 1) (x :: fr) s₂ H2 fp) rfl rfl rfl hc i _ s' _ H' _ I' (fpok fr') st stop) fun r s1 ⟨hr, I3⟩ => ?_
      subst hr
      obtain ⟨p1, p2, p3, p4, p5⟩ := I3.pin (D, _) (List.mem_append_right _ (List.mem_singleton.mpr rfl))
      obtain ⟨m, hn, _⟩ := I3.loc
      have oldne : ∀ b o, s₂.heap.get? b = some o → b ≠ D := fun b o e => by
        exact Nat.ne_of_lt (hD ▸ Heap.lt_size e)
      have neD : ∀ b o, H' b = some o → b ≠ D := fun b o e z => by rw [z, p2] at e; cases e
      have u : Un (frs X.stack) fp H2 H' s₂.heap s1.heap := I3.base
      have hok' : HOk X.prog X.w (upd H' D (.lst ys)) s1.heap := by
        intro b ob e
        by_cases hb : b = D
        · subst hb
          rw [upd_same] at e
          cases e
          exact ⟨hz, its, k, vv, p1⟩
        · rw [upd_ne hb] at e
          exact (I3.hok b ob e).stay (fun _ _ _ q => q) (fun c q => by rw [upd_ne (neD _ _ q)]; exact q) fun c xs q => by rw [upd_ne (neD _ _ q)]; exact q
      have u' : Un (frs X.stack) fp H2 (upd H' D (.lst ys)) s₂.heap s1.heap :=
        ⟨u.keep, u.slot, fun b ob e nn hx => by rw [upd_ne (oldne b ob e)]; exact u.free b ob e nn hx, u.there, fun b xs e => by rw [upd_ne (neD _ _ (u.tups b xs e))]; exact u.tups b xs e,
          fun b ob xs e => by rw [upd_ne (neD _ _ (u.frzs b ob xs e))]; exact u.frzs b ob xs e, fun b ps e => by
            obtain ⟨more, z⟩ := u.tbls b ps e
            exact ⟨more, by rw [upd_ne (neD _ _ z)]; exact z⟩⟩
      refine fin D (D + 1) s1 ys H' q p2 (I.call' I3.os u' hok' I3.bare fun b hb => ?_) ⟨m, hn⟩ (by rw [hD]; exact Nat.le_succ D) ?_
      · obtain ⟨_, g1, _, g3, g4, g5⟩ := f2 b hb
        exact ⟨g3, g1, g4, g5⟩
      · rw [upd_ne (Nat.ne_of_gt (Nat.lt_succ_self D))]
        exact I3.free
    · refine thn (T.item (cxComp X scope cl (D + 1) (x :: fr) s₂ H2 fp) rfl rfl rfl hc i _ s' _ H' _ I' (fpok fr') st go) fun r s1 ⟨u, hr, h4⟩ => ?_
      subst hr
      have h4' : wpAny (model X.prog X.w) X.A (pure () : Sem Unit) _ _ s1 := h4
      refine (show wpAny (model X.prog X.w) X.A (pure () >>= fun _ => assign (.Name x px) (compEnvC scope cl (D + 1) X.env) u) _ _ s1 from wpAny_bind (thn h4' fun _ s5 ⟨v, H5, I5, r5, y5, st5, fr5⟩ => ?_))
      have I5' := I5.pinned (fpok fr5) (T.obj _ _ st5)
      refine wpAny_assign_Name (store_ok (i := 0) I5' ok.nd rfl (.inl hx') r5 (fun s6 I6 => ?_) (.inr hx'))
      refine thnF (ht (D + 1) s₂ H2 _ s6 _ H5 _ I6 (q v H5 y5)) fun b s7 ⟨H7, I7, q7⟩ => ?_
      have keepT : ∀ {H8 : Hp} {σ8 : St} {s8 : Shared}, Inv (cxComp X scope cl (D + 1) (x :: fr) s₂ H2 fp) (([(D, { cls := .type "list", data := .seq (List.toArray its) k })] : List (Addr × Obj)) ++ pinsAt fp s5.heap) σ8 H8 s8 → tn (i + 1) s8.heap ∧ ∀ b ∈ fp, H8 b = none := fun {H8 σ8 s8} I8 =>
        ⟨T.keep _ _ _ st5 fun b hb o e => (I8.pin (b, o) (List.mem_append_right _ (List.mem_append_right _ (mem_pinsAt hb e)))).1, fun b hb => by
          obtain ⟨o, e, _⟩ := T.obj _ _ st5 b hb
          exact (I8.pin (b, o) (List.mem_append_right _ (List.mem_append_right _ (mem_pinsAt hb e)))).2.1⟩
      cases b with
      | false =>
        obtain ⟨m', hm, w'⟩ := hN _ _ q7
        exact ⟨m', hm, i + 1, ys, its, k, some v, H7, I7.unpinned, (keepT I7).1, (keepT I7).2, vv, w'⟩
      | true =>
        refine thnF (he (D + 1) s₂ H2 _ s7 _ H7 _ I7 q7) fun u8 s8 ⟨v8, H8, I8, r8, q8⟩ => ?_
        obtain ⟨m', hm, w'⟩ := hN _ _ q8
        obtain ⟨p1, p2, p3, p4, p5⟩ := I8.pin (D, _) (List.mem_append_right _ (List.mem_append_left _ (List.mem_singleton.mpr rfl)))
        have lz : its.toArray.size ≤ sizeLine := by
          have := vv.length
          simp only [List.size_toArray]
          omega
        refine wpAny_list_append_plain (hsz := lz) ⟨k, p1⟩ fun h₉ hl₉ hs₉ => ?_
        obtain ⟨k9, e9⟩ := hl₉
        have e9' : h₉.get? D = some { cls := .type "list", data := .seq (its ++ [u8]).toArray k9 } := by
          rw [e9]
          simp
        obtain ⟨t8, f8⟩ := keepT I8
        have I8n : Inv (cxComp X scope cl (D + 1) (x :: fr) s₂ H2 fp) [] (some v :: seen js σ) H8 s8 := I8.pins_of fun p hp => nomatch hp
        have I9 : Inv (cxComp X scope cl (D + 1) (x :: fr) s₂ H2 fp) [] (some v :: seen js σ) H8 { s8 with heap := h₉ } :=
          I8n.turned (it := D) (t' := s8.toks) (fun b ob hb e => (hs₉.2 b hb).trans e) p2 p3 (.inr (Nat.le_of_eq hD)) (fun y c e => Nat.ne_of_lt (ltc y c e)) fun p hp => nomatch hp
        refine ⟨m', hm, i + 1, ys ++ [v8], its ++ [u8], k9, some v, H8, I9.pins_of (pinD e9' p2 fun v z => nomatch z), T.keep _ _ _ t8 fun b hb ob e => (hs₉.2 b (Nat.ne_of_lt (ltfp b hb))).trans e, f8, vv.append (.cons r8 .nil), w'⟩
  have I1' := I1 s₂.toks
  exact codeAny_compStart_list (loop _) (T.self _ 0 _ _ _ (T.keep _ _ _ t0 (fun b _ o e => old b o e)) (loop _))

/-- [elt for x in iter if ..]: W holds ahead of turn i, of what was gathered and the heap -/
def tComp (wi : TI) (js : List Nat) (tc : TT) (te : TE) : TE := fun σ H Q => wi σ H fun J H1 =>
  ∃ W : Nat → Nat → List V → Hp → Prop, (∃ m, W 0 m [] H1) ∧ ∀ i m ys H, W i m ys H → ys.length ≤ sizeLine ∧ ((J.stop i H ∧ NewL H Q ys) ∨
    (J.go i H ∧ ∃ N : List V → Hp → Prop, (∀ ys' H', N ys' H' → ∃ m', m' < m ∧ W (i + 1) m' ys' H') ∧ ∀ v H', J.yld i H v H' → tc (some v :: seen js σ) H' fun b H2 =>
      if b = true then te (some v :: seen js σ) H2 fun u H3 => N (ys ++ [u]) H3 else N ys H2))
section
variable {X : Cx} {x y : Str} {px py pos spos : Pos} {iter elt : Expr} {ifs : List Expr} {scope : Scope} {wi : TI} {tc : TT} {te : TE} {js : List Nat} {fr : List Str}
theorem pe_comp (hc : X.calm = true) (ok : CompOk X scope x js fr) (hi : PI X (.Name x px) iter wi) (ht : ∀ cl C s H fp, PTs (cxComp X scope cl C (x :: fr) s H fp) ifs tc) (he : ∀ cl C s H fp, PE (cxComp X scope cl C (x :: fr) s H fp) elt te)
    (hs : ∀ z, foldedSetIterable iter X.env z = pure z := by intro _; rfl) : PE X (.ListComp elt [⟨.Name x px, iter, ifs, 0⟩] scope pos) (tComp wi js tc te) := by
  intro pins s σ H Q I h
  obtain ⟨cl, hcl, c1, c2⟩ := closure_ex (scope := scope) (env := X.env) (fun y hy hf => I.ok.has y.1 (ok.free y hy hf))
  rw [eval_ListComp]
  refine wpAny_comprehension_free (use := none) rfl hs hcl ok.kind ok.names (thn (hi pins s σ H _ I h) fun xv s₁ h₁ => thn h₁ fun itv s₂ h₂ => ?_)
  obtain ⟨it, fp, tn, J, H2, rfl, I2, T, st2, f2, W, ⟨m0, w0⟩, step⟩ := h₂
  refine comp_core (Fin := fun ys H' => NewL H' Q ys) (RR := fun acc C => compPost (model X.prog X.w) X.A X.xe none (EP X pins σ Q) acc C) hc ok (fun C s H => ht cl C s H fp) (fun C s H => he cl C s H fp) c1 c2 I2 T st2 f2 w0 step ?_
  intro D C s' ys H' q hD IV hn hC hCn
  obtain ⟨m, hn⟩ := hn
  refine ⟨m, hn, fun h' hs' => ⟨.ref D, _, ?_, rfl, q.upd D hD⟩⟩
  exact IV.turned (it := C) (t' := s'.toks) (fun b o hb e => (hs'.2 b hb).trans e) hCn (Nat.ne_of_gt (Nat.lt_of_lt_of_le I2.lt hC)) (.inr (Nat.le_trans I2.sz hC)) (fun y c e => by
    obtain ⟨v, z⟩ := I2.cell y c e
    exact Nat.ne_of_lt (Nat.lt_of_lt_of_le z.lt hC)) fun p hp => Nat.ne_of_lt (Nat.lt_of_lt_of_le (Heap.lt_size (I2.pin p hp).1) hC)
/-- y = [..] where CPython exchanges the two stores (y a plain local name) -/
theorem ps_setComp {i : Nat} (hc : X.calm = true) (ok : CompOk X scope x js fr) (hN : X.N.Nodup) (hiN : X.N[i]? = some y) (hy : X.env.scope.names.lookup y = some .local) (hi : PI X (.Name x px) iter wi) (ht : ∀ cl C s H fp, PTs (cxComp X scope cl C (x :: fr) s H fp) ifs tc) (he : ∀ cl C s H fp, PE (cxComp X scope cl C (x :: fr) s H fp) elt te)
    (hsw : swapsWith (.ListComp elt [⟨.Name x px, iter, ifs, 0⟩] scope pos) (some (.Name y py)) spos.line X.env = pure true)
    (hs : ∀ z, foldedSetIterable iter X.env z = pure z := by intro _; rfl) : PS X (.Assign [.Name y py] (.ListComp elt [⟨.Name x px, iter, ifs, 0⟩] scope pos) spos) (tAsg (tComp wi js tc te) (gName i)) := by
  intro pins s σ H D0 I h
  obtain ⟨cl, hcl, c1, c2⟩ := closure_ex (scope := scope) (env := X.env) (fun y hy hf => I.ok.has y.1 (ok.free y hy hf))
  rw [exec_Assign_Name_used _ _ _ _ hsw]
  refine wpAny_bind (wpAny_standAt (wpAny_bind ?_))
  show wpAny _ X.A (do let _ ← comprehension (.ListComp elt [⟨.Name x px, iter, ifs, 0⟩] scope pos) scope X.env _ (newList []) false (eval iter X.env) (some (assign (.Name y py) X.env))) _ _ s
  refine wpAny_bind (wpAny_mono (wpAny_comprehension_free (use := some (assign (.Name y py) X.env)) (Q := fun _ s' => SP X pins D0 .next s') rfl hs hcl ok.kind ok.names
    (thn (hi pins s σ H _ I h) fun xv s₁ h₁ => thn h₁ fun itv s₂ h₂ => ?_)) (fun _ s' hq => wpAny_pure (wpAny_pure hq)) fun _ _ e => e)
  obtain ⟨it, fp, tn, J, H2, rfl, I2, T, st2, f2, W, ⟨m0, w0⟩, step⟩ := h₂
  refine comp_core (Fin := fun ys H' => NewL H' (fun v H2 => D0.nx (σ.set i (some v)) H2) ys) (RR := fun acc C => compPost (model X.prog X.w) X.A X.xe (some (assign (.Name y py) X.env)) (fun _ s' => SP X pins D0 .next s') acc C) hc ok (fun C s H => ht cl C s H fp) (fun C s H => he cl C s H fp) c1 c2 I2 T st2 f2 w0 step ?_
  intro D C s' ys H' q hD IV hn hC hCn
  obtain ⟨m, hn⟩ := hn
  have cellC : ∀ z c, X.env.cells.lookup z = some c → c ≠ C := fun z c e => by
    obtain ⟨v, z⟩ := I2.cell z c e
    exact Nat.ne_of_lt (Nat.lt_of_lt_of_le z.lt hC)
  have locC : C ≠ X.env.locals := Nat.ne_of_gt (Nat.lt_of_lt_of_le I2.lt hC)
  show wpAny (model X.prog X.w) X.A (assign (.Name y py) X.env (.ref D)) _ _ s'
  refine wpAny_assign_Name (store_ok2 IV hN hiN (.inl hy) (v := .ref D) rfl (fun s'' I'' ⟨a, hs, ha⟩ => ?_) (.inr hy))
  have aC : C ≠ a := by
    rcases ha with z | z
    · rw [z]; exact locC
    · exact Ne.symm (cellC _ _ z)
  refine ⟨m, hn.sameBut hs aC, fun h' hs' => ⟨_, _, ?_, q.upd D hD⟩⟩
  exact I''.turned (it := C) (t' := s''.toks) (fun b o hb e => (hs'.2 b hb).trans e) hCn locC (.inr (Nat.le_trans I2.sz hC)) cellC fun p hp => Nat.ne_of_lt (Nat.lt_of_lt_of_le (Heap.lt_size (I2.pin p hp).1) hC)
end

/-! ### the forms one uses: what is walked, what is gathered -/
def gath (lo : Int) (p : Int → Bool) (f : Int → V) (i : Nat) : List V := ((List.range i).filter fun k => p (lo + (k : Nat))).map fun k => f (lo + (k : Nat))
theorem gath_t {lo : Int} {p : Int → Bool} {f : Int → V} {i : Nat} (h : p (lo + (i : Nat)) = true) : gath lo p f i ++ [f (lo + (i : Nat))] = gath lo p f (i + 1) := by
  unfold gath
  rw [List.range_succ, List.filter_append, List.map_append]
  simp [h]
theorem gath_f {lo : Int} {p : Int → Bool} {f : Int → V} {i : Nat} (h : p (lo + (i : Nat)) = false) : gath lo p f i = gath lo p f (i + 1) := by
  unfold gath
  rw [List.range_succ, List.filter_append, List.map_append]
  simp [h]
theorem gath_len (lo : Int) (p : Int → Bool) (f : Int → V) (i : Nat) : (gath lo p f i).length ≤ i := by
  unfold gath
  rw [List.length_map]
  exact Nat.le_trans (List.length_filter_le _ _) (by simp)
/-- over a range: p is the test, f what is gathered -/
theorem comp_range {lo : Int} {n : Nat} {js : List Nat} {tc : TT} {te : TE} {σ : St} {H : Hp} {Q : VK} (p : Int → Bool) (f : Int → V) (Pv : Nat → Hp → Prop) (hp : Pv 0 H) (hn : n ≤ sizeLine)
    (hs : ∀ i H, i < n → Pv i H → tc (some (.int (lo + (i : Nat))) :: seen js σ) H fun b H2 =>
      if b = true then te (some (.int (lo + (i : Nat))) :: seen js σ) H2 fun u H3 => gath lo p f i ++ [u] = gath lo p f (i + 1) ∧ Pv (i + 1) H3 else gath lo p f i = gath lo p f (i + 1) ∧ Pv (i + 1) H2)
    (hd : ∀ H, Pv n H → NewL H Q (gath lo p f n)) :
    ∃ W : Nat → Nat → List V → Hp → Prop, (∃ m, W 0 m [] H) ∧ ∀ i m ys H, W i m ys H → ys.length ≤ sizeLine ∧ (((Itr lo n).stop i H ∧ NewL H Q ys) ∨
    ((Itr lo n).go i H ∧ ∃ N : List V → Hp → Prop, (∀ ys' H', N ys' H' → ∃ m', m' < m ∧ W (i + 1) m' ys' H') ∧ ∀ v H', (Itr lo n).yld i H v H' → tc (some v :: seen js σ) H' fun b H2 =>
      if b = true then te (some v :: seen js σ) H2 fun u H3 => N (ys ++ [u]) H3 else N ys H2)) := by
  refine ⟨fun i m ys H => m = n - i ∧ i ≤ n ∧ ys = gath lo p f i ∧ Pv i H, ⟨n, by simp, Nat.zero_le _, rfl, hp⟩, ?_⟩
  rintro i m ys H ⟨rfl, hi, rfl, q⟩
  refine ⟨Nat.le_trans (Nat.le_trans (gath_len _ _ _ _) hi) hn, ?_⟩
  by_cases hlt : i < n
  · refine .inr ⟨hlt, fun ys' H' => ys' = gath lo p f (i + 1) ∧ Pv (i + 1) H', fun ys' H' ⟨e, q'⟩ => ⟨n - (i + 1), by omega, rfl, hlt, e, q'⟩, fun v H' y => ?_⟩
    obtain ⟨e, y⟩ := y
    subst e y
    exact hs i _ hlt q
  · have e : i = n := by omega
    subst e
    exact .inl ⟨Nat.le_refl _, hd H q⟩
def gathL (xs : List Int) (p : Int → Bool) (f : Int → V) (i : Nat) : List V := ((xs.take i).filter p).map f
theorem gathL_t {xs : List Int} {p : Int → Bool} {f : Int → V} {i : Nat} {v : Int} (e : xs[i]? = some v) (h : p v = true) : gathL xs p f i ++ [f v] = gathL xs p f (i + 1) := by
  unfold gathL
  rw [List.take_add_one, e, List.filter_append, List.map_append]
  simp [h]
theorem gathL_f {xs : List Int} {p : Int → Bool} {f : Int → V} {i : Nat} {v : Int} (e : xs[i]? = some v) (h : p v = false) : gathL xs p f i = gathL xs p f (i + 1) := by
  unfold gathL
  rw [List.take_add_one, e, List.filter_append, List.map_append]
  simp [h]
theorem gathL_len (xs : List Int) (p : Int → Bool) (f : Int → V) (i : Nat) : (gathL xs p f i).length ≤ xs.length := by
  unfold gathL
  rw [List.length_map]
  exact Nat.le_trans (List.length_filter_le _ _) (by simp; omega)
/-- over a list of ints that stays -/
theorem comp_list {K : PySem.W.Frag} {a : Addr} {xs : List Int} {js : List Nat} {tc : TT} {te : TE} {σ : St} {H : Hp} {Q : VK} (p : Int → Bool) (f : Int → V) (Pv : Nat → Hp → Prop) (hp : Pv 0 H) (hn : xs.length ≤ sizeLine)
    (hl : ∀ i H, i ≤ xs.length → Pv i H → SqL K H a (xs.map V.int))
    (hs : ∀ i v H, xs[i]? = some v → Pv i H → tc (some (.int v) :: seen js σ) H fun b H2 =>
      if b = true then te (some (.int v) :: seen js σ) H2 fun u H3 => gathL xs p f i ++ [u] = gathL xs p f (i + 1) ∧ Pv (i + 1) H3 else gathL xs p f i = gathL xs p f (i + 1) ∧ Pv (i + 1) H2)
    (hd : ∀ H, Pv xs.length H → NewL H Q ((xs.filter p).map f)) :
    ∃ W : Nat → Nat → List V → Hp → Prop, (∃ m, W 0 m [] H) ∧ ∀ i m ys H, W i m ys H → ys.length ≤ sizeLine ∧ (((Itl K a).stop i H ∧ NewL H Q ys) ∨
    ((Itl K a).go i H ∧ ∃ N : List V → Hp → Prop, (∀ ys' H', N ys' H' → ∃ m', m' < m ∧ W (i + 1) m' ys' H') ∧ ∀ v H', (Itl K a).yld i H v H' → tc (some v :: seen js σ) H' fun b H2 =>
      if b = true then te (some v :: seen js σ) H2 fun u H3 => N (ys ++ [u]) H3 else N ys H2)) := by
  refine ⟨fun i m ys H => m = xs.length - i ∧ i ≤ xs.length ∧ ys = gathL xs p f i ∧ Pv i H, ⟨xs.length, by simp, Nat.zero_le _, rfl, hp⟩, ?_⟩
  rintro i m ys H ⟨rfl, hi, rfl, q⟩
  refine ⟨Nat.le_trans (gathL_len _ _ _ _) hn, ?_⟩
  have sq := hl i H hi q
  by_cases hlt : i < xs.length
  · have e0 : xs[i]? = some xs[i] := List.getElem?_eq_getElem hlt
    have e1 : (xs.map V.int)[i]? = some (.int xs[i]) := by rw [List.getElem?_map, e0]; rfl
    refine .inr ⟨⟨_, _, sq, e1⟩, fun ys' H' => ys' = gathL xs p f (i + 1) ∧ Pv (i + 1) H', fun ys' H' ⟨e, q'⟩ => ⟨xs.length - (i + 1), by omega, rfl, hlt, e, q'⟩, fun v H' y => ?_⟩
    obtain ⟨e, y⟩ := y
    subst e
    have y := y _ sq
    rw [e1] at y
    cases y
    exact hs i _ _ e0 q
  · have e : i = xs.length := by omega
    subst e
    refine .inl ⟨⟨_, sq, by simp⟩, ?_⟩
    have := hd H q
    unfold gathL
    rw [List.take_length]
    exact this
end L2
namespace L2
open PySem PySem.Spec PyProof.Rows
section
variable {X : Cx} {pos : Pos}
/-! ### two lists of ints compared -/
def rEqI (K : PySem.W.Frag) : R2 := fun x y H Q => ∃ (a b : Addr) (ns ms : List Int), x = .ref a ∧ y = .ref b ∧ SqL K H a (ns.map V.int) ∧ SqL K H b (ms.map V.int) ∧ Q (.bl (decide (ns = ms))) H
def rNeI (K : PySem.W.Frag) : R2 := fun x y H Q => ∃ (a b : Addr) (ns ms : List Int), x = .ref a ∧ y = .ref b ∧ SqL K H a (ns.map V.int) ∧ SqL K H b (ms.map V.int) ∧ Q (.bl (!decide (ns = ms))) H
theorem op_eqI (hu : X.A.units + 64 < cLine) : OpR X (compareOp .Eq) (rEqI X.K) := by
  intro pins s σ H x y v u Q I rx ry h
  obtain ⟨a, b, ns, ms, rfl, rfl, ha, hb, q⟩ := h
  cases rx; cases ry
  obtain ⟨its, r1, p1, _⟩ := I.list ha
  obtain ⟨its', r2, p2, _⟩ := I.list hb
  exact PySem.W.eq_intsK p1.isList (intsAre_of r1) p2.isList (intsAre_of r2) hu ⟨.bl _, H, I, rfl, q⟩
theorem op_neI (hu : X.A.units + 64 < cLine) : OpR X (compareOp .NotEq) (rNeI X.K) := by
  intro pins s σ H x y v u Q I rx ry h
  obtain ⟨a, b, ns, ms, rfl, rfl, ha, hb, q⟩ := h
  cases rx; cases ry
  obtain ⟨its, r1, p1, _⟩ := I.list ha
  obtain ⟨its', r2, p2, _⟩ := I.list hb
  exact PySem.W.ne_intsK p1.isList (intsAre_of r1) p2.isList (intsAre_of r2) hu ⟨.bl _, H, I, rfl, q⟩

/-! ### isinstance(x, a built-in type) -/
def rIsi (K : PySem.W.Frag) : List V → Hp → VK → Prop := fun xs H Q => ∃ x c t b, xs = [x, .ty c] ∧ TyOf K H x t ∧ PySem.W.kitOne K t (.type c) = some b ∧ Q (.bl b) H
theorem call_isi : CallR X (.builtin "isinstance") (rIsi X.K) := by
  intro pins s σ H xs us Q I r h
  obtain ⟨x, c, t, b, rfl, ty, e, q⟩ := h
  obtain ⟨u, w', rfl, ru, rw'⟩ := vals2 r
  cases (show w' = Value.type c from rw')
  exact isinst_ok I ru ty e fun tk => ⟨.bl b, H, I.tok _, rfl, q⟩

/-! ### a, b = a list of that length -/
theorem draw_lst {prog : Program} {w : World} {A : Around} {E : Value → Shared → Prop} {it a : Addr} {items : Array Value} (hne : a ≠ it) : ∀ (n i : Nat) (s : Shared) (Q : List Value → Shared → Prop), s.heap.IsListIter it a i → s.heap.IsList a items → i + n ≤ items.size →
    (∀ h', h'.IsListIter it a (i + n) → Heap.SameBut it s.heap h' → Q ((items.toList.drop i).take n) { s with heap := h' }) → wpAny (model prog w) A (draw (.ref it) n) Q E s
  | 0, i, s, Q, hit, _, _, hQ => by
    have := hQ s.heap hit (Heap.SameBut.refl ..)
    rw [List.take_zero] at this
    exact wpAny_pure this
  | n + 1, i, s, Q, hit, hl, hle, hQ => by
    have hlt : i < items.size := by omega
    unfold draw
    refine wpAny_bind (wpAny_pyNext_list_item hit hl (x := items[i]) (by simp [hlt]) fun h₁ hit₁ hs₁ => ?_)
    refine wpAny_bind (wpAny_holding (draw_lst hne n (i + 1) _ _ hit₁ (hl.extBut hs₁.extBut hne) (by omega) fun h₂ hit₂ hs₂ => wpAny_pure ?_))
    have := hQ h₂ (by rw [Nat.add_comm n 1, ← Nat.add_assoc]; exact hit₂) (hs₁.trans hs₂)
    have hd : items.toList.drop i = items[i] :: items.toList.drop (i + 1) := by simp [List.drop_eq_getElem_cons, hlt]
    rw [hd] at this
    exact this
theorem unpackItems_lst {prog : Program} {w : World} {A : Around} {E : Value → Shared → Prop} {s : Shared} {a : Addr} {items : Array Value} {n : Nat} {Q : List Value → Shared → Prop} (hh : A.handled = none) (hl : s.heap.IsList a items) (hn : n = items.size)
    (hQ : ∀ h', Heap.ExtBut s.heap.objs.size s.heap h' → Q items.toList { s with heap := h' }) : wpAny (model prog w) A (unpackItems (.ref a) n none) Q E s := by
  subst hn
  have hlt : a ≠ s.heap.objs.size := by obtain ⟨o, ho, _⟩ := hl; exact Nat.ne_of_lt (Heap.lt_size ho)
  unfold unpackItems notIterableAtAll
  refine wpAny_bind (wpAny_bind (wpAny_specialOf hl.typeIs slot_list_iter.lookup (wpAny_pure ?_)))
  simp only [Bool.false_eq_true, if_false]
  refine wpAny_bind (wpAny_holding (wpAny_pyIter_list hl ?_))
  have hl1 : (s.heap.push { cls := .type "list_iterator", data := .fields #[.ref a, .int 0 0] }).IsList a items := hl.at fun o e => Heap.get?_push_of_some _ e
  refine wpAny_bind (wpAny_holding (draw_lst hlt items.size 0 _ _ ⟨_, Heap.get?_push_size _ rfl, rfl, rfl⟩ hl1 (by omega) fun h₁ hit₁ hs₁ => ?_))
  rw [List.drop_zero, List.take_of_length_le (by simp), if_neg (by simp)]
  refine wpAny_bind (wpAny_holding (wpAny_pyNext_list_end hh hit₁ (hl1.extBut hs₁.extBut hlt) (by simp) fun h₂ he₂ => ?_))
  simp only [Option.isSome_none, Bool.false_eq_true, if_false]
  exact wpAny_pure (hQ h₂ fun b o hb e => he₂ b o hb (hs₁.extBut b o hb (Heap.get?_push_of_some _ e)))
def gLst (K : PySem.W.Frag) (n : Nat) (t : TGs) : TG := fun v σ H Q => ∃ a xs, v = .ref a ∧ SqL K H a xs ∧ xs.length = n ∧ t xs σ H Q
theorem pg_lst {es : List Expr} {k : Nat} {t : TGs} {n : Nat} (hc : X.calm = true) (h : PGs X es t)
    (hn : (assignEach es X.env).length = n := by rfl) (hst : (assignEach es X.env).findIdx? (·.1) = none := by rfl) : PG X (.Tuple es k pos) (gLst X.K n t) := by
  intro pins s σ H v u Q I r hw
  obtain ⟨a, xs, e1, hq, hl, hw⟩ := hw
  subst e1
  cases r
  obtain ⟨its, rv, ht, hz⟩ := I.list hq
  rw [assign_Tuple]
  refine wpAny_bind (wpAny_standAt ?_)
  unfold unpack
  rw [hst]
  refine wpAny_bind (wpAny_holding (unpackItems_lst (I.ok.hd hc) ht.isList (by rw [hn, ← hl, rv.length]; simp) fun h' hx => ?_))
  have I1 : Inv X pins σ H { s with heap := h' } := I.kept (t' := s.toks) fun b o e => hx b o (Nat.ne_of_lt (Heap.lt_size e)) e
  exact h pins _ σ H xs _ Q I1 (by simpa using rv) hw
end
end L2
namespace L2
open PySem PySem.Spec PyProof.Rows
/-! ### a def, a method, a class with its promise: all that a caller needs -/
structure DefOk (P : Program) (w : World) (K : PySem.W.Frag) (mg : Str → Option Value) (base : Heap) (x : Str) (k : Nat) (ps : List Str) (sp : Sp) : Prop where
  ex : ∃ f fd, FnOk P w K mg base CX0 k f fd ps sp ∧ mg x = some (.ref f) ∧ PySem.W.keepIn K (.ref f) = true ∧ Binds K fd ps []
structure MethOk (P : Program) (w : World) (K : PySem.W.Frag) (mg : Str → Option Value) (base : Heap) (C : Addr) (m : Str) (k : Nat) (ps : List Str) (sp : Sp) : Prop where
  cl : Cls K C
  ex : ∃ f fd, FnOk P w K mg base CX0 k f fd ps sp ∧ Meth K C m f ∧ Binds K fd ps []
structure MakeOk (P : Program) (w : World) (K : PySem.W.Frag) (mg : Str → Option Value) (base : Heap) (x : Str) (C : Addr) (k : Nat) (ps : List Str) (sp : Sp) : Prop where
  ex : ∃ f fd, FnOk P w K mg base CX0 k f fd ps sp ∧ Mk K C f ∧ mg x = some (.ref C) ∧ Binds K fd ps []
section
variable {X : Cx} {C : Addr} {k : Nat} {ps : List Str} {sp : Sp} {x m : Str} {p pos apos : Pos} {e o : Expr} {es : List Expr} {ta : TE} {t : TA}
theorem pe_callD (D : DefOk X.prog X.w X.K X.mg X.base x k ps sp) (hr : Room k X.A) (hg : Gl X x) (ha : PA X (e :: es) t) (hdb : (x == ("__debug__" : Str)) = false := by decide)
    (he : starEach (e :: es) X.env = (false, eval e X.env) :: starEach es X.env := by rfl) (hpl : (backTo pos (starEach es X.env)).any (·.1) = false := by rfl) : PE X (.Call (.Name x p) (e :: es) [] pos) (tCall sp [] E0 t) := by
  obtain ⟨f, fd, a, b, c, d⟩ := D.ex
  exact pe_call a hr hg b c d .nil pass0 ha hdb he hpl
theorem pe_methD {pl : Sem Bool} (D : MethOk X.prog X.w X.K X.mg X.base C m k ps sp) (ho : PE X o ta) (hr : Room k X.A) (ha : PA X (e :: es) t)
    (hst : starEach (e :: es) X.env = (false, eval e X.env) :: starEach es X.env := by rfl) (hpl : (backTo pos (starEach es X.env)).any (·.1) = false := by rfl)
    (ht : eval (.Call (.Attribute o m apos) (e :: es) [] pos) X.env = (do
      let ov ← eval o X.env
      standAt apos.atName
      let (f, first) ← holding [ov] (getMethod ov m pl)
      callWith pos f first (backTo pos (starEach (e :: es) X.env)) (backToKw pos (keywordEach [] X.env))) := by rfl) : PE X (.Call (.Attribute o m apos) (e :: es) [] pos) (tMeth C m sp [] E0 ta t) := by
  obtain ⟨f, fd, a, b, c⟩ := D.ex
  exact pe_meth (pl := pl) ho D.cl b a hr c .nil pass0 ha hst hpl ht
/-- C(..), the heap forgotten but for what it holds -/
def tMakeS (C : Addr) (sp : Sp) (t : TA) : TE := fun σ H Q => t σ H fun vs H1 => ∀ x dx H2, H1 x = none → H2 x = some (.ins C dx []) → Same H1 H2 → sp (.ref x :: vs) H2 (fun v H3 => v = .non ∧ Q (.ref x) H3) E0
theorem pe_makeD (D : MakeOk X.prog X.w X.K X.mg X.base x C k ps sp) (hr : Room (k + 1) X.A) (hg : Gl X x) (ha : PA X (e :: es) t) (hdb : (x == ("__debug__" : Str)) = false := by decide)
    (he : starEach (e :: es) X.env = (false, eval e X.env) :: starEach es X.env := by rfl) (hpl : (backTo pos (starEach es X.env)).any (·.1) = false := by rfl) : PE X (.Call (.Name x p) (e :: es) [] pos) (tMakeS C sp t) := by
  obtain ⟨f, fd, a, b, c, d⟩ := D.ex
  intro pins s σ H Q I h
  refine wpAny_Call_Name_kw (ld_glob I hg c ?_ hdb)
  refine PySem.W.callWith_K (h₀ := X.base) I.ok.mod.kin b.kp (thn (ha pos pins s σ H _ I h) fun us s1 ⟨vs, H1, I1, r, q⟩ => ⟨I1.kIn, ?_⟩) he hpl
  refine run_make (dvs := []) b a hr d .nil pass0 I1 r fun y dx ny ndy ne => ?_
  rw [List.append_nil]
  exact q y dx _ ny upd_same fun b o e => by
    rw [upd_ne (ne_of_none e ny), upd_ne (ne_of_none e ndy)]
    exact e
/-- [a, b, ..] -/
def tLstS (t : TA) : TE := fun σ H Q => t σ H fun xs H1 => xs.length ≤ sizeLine ∧ NewL H1 Q xs
theorem pe_lstS (h : PA X es t) : PE X (.List es pos) (tLstS t) := by
  intro pins s σ H Q I hq
  refine wpAny_List_spliced (thn (h pos pins s σ H _ I hq) fun us s1 ⟨xs, H1, I1, r, z, q⟩ => ⟨by rw [← r.length]; exact z, ?_⟩)
  refine ⟨.ref s1.heap.objs.size, _, I1.laid (t' := s1.toks) (fun b u e => Heap.get?_push_of_some _ e) (Nat.le_refl _) ?_, rfl, q.upd _ (I1.hok.fresh (Nat.le_refl _))⟩
  exact ⟨z, us, 0, r, Heap.get?_push_size _ rfl⟩
def rSlLS (K : PySem.W.Frag) : V → Option Int → Option Int → Hp → VK → Prop := fun x lo hi H Q => ∃ a xs, x = .ref a ∧ SqL K H a xs ∧ NewL H Q (cutV xs lo hi)
theorem sl_listS : SlR X (rSlLS X.K) := fun pins s σ H x v vl vu lo hi sl Q I rx hs pl pu h =>
  sl_list pins s σ H x v vl vu lo hi sl Q I rx hs pl pu (let ⟨a, xs, e, hx, q⟩ := h; ⟨a, xs, e, hx, q.upd⟩)
def rListOfS (K : PySem.W.Frag) : List V → Hp → VK → Prop := fun xs H Q => ∃ p ys, xs = [.ref p] ∧ SqL K H p ys ∧ NewL H Q ys
theorem call_list_ofS : CallR X (.type "list") (rListOfS X.K) := fun pins s σ H xs us Q I r h =>
  call_list_of pins s σ H xs us Q I r (let ⟨p, ys, e, hx, q⟩ := h; ⟨p, ys, e, .inl hx, q.upd⟩)
def rAppendS : V → List V → Hp → VK → Prop := fun x vs H Q => ∃ l xs y, x = .ref l ∧ vs = [y] ∧ H l = some (.lst xs) ∧ xs.length < sizeLine ∧ ∀ H2, H2 l = some (.lst (xs ++ [y])) → (∀ b o, b ≠ l → H b = some o → H2 b = some o) → Q .non H2
theorem mt_appendS : MtM X "list.append" rAppendS := fun pins s σ H x vs v us Q I rx rv h =>
  mt_append pins s σ H x vs v us Q I rx rv (let ⟨l, xs, y, e1, e2, hl, hz, q⟩ := h; ⟨l, xs, y, e1, e2, hl, hz, q _ upd_same fun b o nb e => by rw [upd_ne nb]; exact e⟩)
def rSetLS : V → V → V → Hp → (Hp → Prop) → Prop := fun o i v H Q => ∃ p xs k j, o = .ref p ∧ i = .int k ∧ H p = some (.lst xs) ∧ ixN xs.length k = some j ∧ ∀ H2, H2 p = some (.lst (xs.set j v)) → (∀ b o, b ≠ p → H b = some o → H2 b = some o) → Q H2
theorem set_listS : PSet X rSetLS := fun pins s σ H o i v ov iv u Q I r1 r2 r3 h =>
  set_list pins s σ H o i v ov iv u Q I r1 r2 r3 (let ⟨p, xs, k, j, e1, e2, hl, hz, q⟩ := h; ⟨p, xs, k, j, e1, e2, hl, hz, q _ upd_same fun b o nb e => by rw [upd_ne nb]; exact e⟩)
/-- a display of written ints, whatever their number -/
inductive AllInts : List Expr → List Int → Prop
  | nil : AllInts [] []
  | cons {i : Int} {j : Nat} {pos : Pos} {es : List Expr} {is : List Int} (h : AllInts es is) : AllInts (.Constant (.int i) j pos :: es) (i :: is)
def tInts (is : List Int) : TA := fun _ H Q => Q (is.map V.int) H
theorem pa_ints {es : List Expr} {is : List Int} (h : AllInts es is) : PA X es (tInts is) := by
  induction h with
  | nil => exact pa_nil
  | @cons i j ps es is _ ih =>
    intro pos pins s σ H Q I hq
    exact pa_cons (te := tC (.int i)) (t := tInts is) pe_int ih rfl pos pins s σ H Q I hq
/-- a built-in type as a value -/
theorem pe_ty {n : String} (hg : Gl X x) (hm : X.mg x = none) (hv : bootBuiltins x = some (.type n)) (hn : x ≠ "__name__" := by decide) (hd : (x == ("__debug__" : Str)) = false := by decide) : PE X (.Name x pos) (tC (.ty n)) := pe_bltn hg hm hv rfl hn hd
end
/-- an int constant of the module -/
theorem pe_globI {X : Cx} {x : Str} {i : Int} {tk : Tok} {pos : Pos} (hg : Gl X x) (hm : X.mg x = some (.int i tk)) (hd : (x == ("__debug__" : Str)) = false := by decide) : PE X (.Name x pos) (tC (.int i)) := pe_glob hg hm ⟨tk, rfl⟩ hd
theorem Same.but {H H1 H2 : Hp} {l : Addr} (a : Same H H1) (hl : H l = none) (h : ∀ b o, b ≠ l → H1 b = some o → H2 b = some o) : Same H H2 := fun b o e => h b o (ne_of_none e hl) (a b o e)
theorem kit_same {K : PySem.W.Frag} {T : String} : PySem.W.kitOne K (.type T) (.type T) = some true := by
  unfold PySem.W.kitOne
  rw [if_pos (by simp)]
theorem kit_bool {K : PySem.W.Frag} : PySem.W.kitOne K (.type "int") (.type "bool") = some false :=
  (show PySem.W.kitOne K (.type "int") (.type "bool") = PySem.W.kitOne [] (.type "int") (.type "bool") from rfl).trans (by decide +kernel)
/-! ### reading -/
theorem small {n : Nat} (h : n ≤ 1000) : n ≤ sizeLine := Nat.le_of_lt (small1000 h)
theorem ex_var {v : V} {P : V → Prop} (h : P v) : ∃ u, (some (some v) : Option (Option V)) = some (some u) ∧ P u := ⟨v, rfl, h⟩
end L2
namespace L2
open PySem PySem.Spec PyProof.Rows
/-! ### the judgements as structures: nothing unfolds them; the same rules -/
structure JE (X : Cx) (e : Expr) (t : TE) : Prop where
  h : PE X e t
structure JT (X : Cx) (e : Expr) (t : TT) : Prop where
  h : PT X e t
structure JA (X : Cx) (es : List Expr) (t : TA) : Prop where
  h : PA X es t
structure JS (X : Cx) (st : Stmt) (t : TS) : Prop where
  h : PS X st t
structure JSs (X : Cx) (st : List Stmt) (t : TS) : Prop where
  h : PSs X st t
structure JW (X : Cx) (e : Expr) (t : TT) : Prop where
  h : PW X e t
structure JI (X : Cx) (tg iter : Expr) (wi : TI) : Prop where
  h : PI X tg iter wi
structure JG (X : Cx) (tg : Expr) (t : TG) : Prop where
  h : PG X tg t
structure JGs (X : Cx) (ts : List Expr) (t : TGs) : Prop where
  h : PGs X ts t
structure JTs (X : Cx) (ifs : List Expr) (t : TT) : Prop where
  h : PTs X ifs t
structure JO (X : Cx) (e : Option Expr) (t : TO) : Prop where
  h : PO X e t
section
variable {X : Cx}
theorem jv (i : Nat) {x : Str} {pos : Pos} (hN : X.N[i]? = some x := by rfl) (hv : Vis X.env.scope x := by first | exact Or.inl rfl | exact Or.inr (Or.inl rfl) | exact Or.inr (Or.inr rfl)) (hd : (x == ("__debug__" : Str)) = false := by decide) (hcd : (x == ("__classdict__" : Str)) = false := by decide) : JE X (.Name x pos) (tVar i) := ⟨pv i hN hv hd hcd⟩
end
section
variable {X : Cx}
theorem je_int {i j pos} : JE X (.Constant (.int i) j pos) (tC (.int i)) := ⟨pe_int⟩
end
section
variable {X : Cx}
theorem je_bl {b j pos} : JE X (.Constant (.bool b) j pos) (tC (.bl b)) := ⟨pe_bl⟩
end
section
variable {X : Cx}
theorem je_non {j pos} : JE X (.Constant .none j pos) (tC .non) := ⟨pe_non⟩
end
section
variable {X : Cx}
theorem je_str {x j pos} : JE X (.Constant (.str x) j pos) (tC (.str x)) := ⟨pe_str⟩
end
section
variable {X : Cx} {a b c : Expr} {ta tb tc : TE} {pos : Pos}
theorem je_op {op : Operator} {r : R2} (ho : OpR X (binaryOp op) r) (ha : JE X a ta) (hb : JE X b tb) : JE X (.BinOp a op b pos) (tOp r ta tb) := ⟨pe_op ho ha.h hb.h⟩
end
section
variable {X : Cx} {a b c : Expr} {ta tb tc : TE} {pos : Pos}
theorem je_un {op : UnaryOp} {r : V → Hp → VK → Prop} (ho : UnR X (unaryOp op) r) (ha : JE X a ta) : JE X (.UnaryOp op a pos) (tUn r ta) := ⟨pe_un ho ha.h⟩
end
section
variable {X : Cx} {a b c : Expr} {ta tb tc : TE} {pos : Pos}
theorem je_cmpR {op : CmpOp} {r : R2} (ho : OpR X (compareOp op) r) (ha : JE X a ta) (hb : JE X b tb) (hm : behindInMarks op b = false) : JE X (.Compare a [op] [b] pos) (tOp r ta tb) := ⟨pe_cmpR ho ha.h hb.h hm⟩
end
section
variable {X : Cx} {a b c : Expr} {ta tb tc : TE} {pos : Pos}
theorem je_chain {op op' : CmpOp} {r r' : R2} (ho : OpR X (compareOp op) r) (ho' : OpR X (compareOp op') r') (ha : JE X a ta) (hb : JE X b tb) (hc : JE X c tc) (hm : lastMarks [op, op'] [b, c] = false := by with_unfolding_all rfl) : JE X (.Compare a [op, op'] [b, c] pos) (tChain r r' ta tb tc) := ⟨pe_chain ho ho' ha.h hb.h hc.h hm⟩
end
section
variable {X : Cx}
variable {a b : Expr} {ta tb : TE} {pos : Pos}
variable {tA tB' : TT} {rest : List Expr}
theorem je_and (ha : JE X a ta) (hb : JE X (.BoolOp .And (b :: rest) pos) tb) : JE X (.BoolOp .And (a :: b :: rest) pos) (tAndV ta tb) := ⟨pe_and ha.h hb.h⟩
end
section
variable {X : Cx}
variable {a b : Expr} {ta tb : TE} {pos : Pos}
variable {tA tB' : TT} {rest : List Expr}
theorem je_or (ha : JE X a ta) (hb : JE X (.BoolOp .Or (b :: rest) pos) tb) : JE X (.BoolOp .Or (a :: b :: rest) pos) (tOrV ta tb) := ⟨pe_or ha.h hb.h⟩
end
section
variable {X : Cx}
variable {a b : Expr} {ta tb : TE} {pos : Pos}
variable {tA tB' : TT} {rest : List Expr}
theorem je_one {op} {t : TE} (h : JE X a t) : JE X (.BoolOp op [a] pos) t := ⟨pe_one h.h⟩
end
section
variable {X : Cx}
variable {a b : Expr} {ta tb : TE} {pos : Pos}
variable {tA tB' : TT} {rest : List Expr}
theorem je_not (ha : JE X a ta) : JE X (.UnaryOp .Not a pos) (tNotV ta) := ⟨pe_not ha.h⟩
end
section
variable {X : Cx}
variable {a b : Expr} {ta tb : TE} {pos : Pos}
variable {tA tB' : TT} {rest : List Expr}
theorem je_ifExp {c : Expr} (hc : JT X c tA) (ha : JE X a ta) (hb : JE X b tb) : JE X (.IfExp c a b pos) (tIf tA ta tb) := ⟨pe_ifExp hc.h ha.h hb.h⟩
end
section
variable {X : Cx} {o e value : Expr} {f : Str} {pos pos' tpos : Pos} {ta tv : TE}
theorem je_fld (he : JE X e ta) (hb : attributeBase e f X.env (eval e X.env) = eval e X.env) : JE X (.Attribute e f pos) (tFld X.K ta f) := ⟨pe_fld he.h hb⟩
end
section
variable {X : Cx} {a b : Expr} {ta tb : TE} {pos : Pos}
theorem je_ix {r : R2} (hr : IxR X r) (ha : JE X a ta) (hb : JE X b tb) (hs : PlainIx b) : JE X (.Subscript a b pos) (tOp r ta tb) := ⟨pe_ix hr ha.h hb.h hs⟩
end
section
variable {X : Cx} {e : Expr} {te : TE} {lo hi : Option Expr} {tl th : TO} {pos p2 : Pos}
theorem je_slice {r : V → Option Int → Option Int → Hp → VK → Prop} (hr : SlR X r) (he : JE X e te) (hl : JO X lo tl) (hu : JO X hi th) : JE X (.Subscript e (.Slice lo hi none p2) pos) (tSl r te tl th) := ⟨pe_slice hr he.h hl.h hu.h⟩
end
section
variable {X : Cx} {e : Expr} {es : List Expr} {te : TE} {t : TA} {pos : Pos}
theorem je_tup {x1} (h : JA X es t) : JE X (.Tuple es x1 pos) (tTup t) := ⟨pe_tup h.h⟩
end
section
variable {X : Cx} {C : Addr} {k : Nat} {ps : List Str} {sp : Sp} {x m : Str} {p pos apos : Pos} {e o : Expr} {es : List Expr} {ta : TE} {t : TA}
theorem je_lstS (h : JA X es t) : JE X (.List es pos) (tLstS t) := ⟨pe_lstS h.h⟩
end
section
variable {X : Cx} {x y : Str} {px py pos spos : Pos} {iter elt : Expr} {ifs : List Expr} {scope : Scope} {wi : TI} {tc : TT} {te : TE} {js : List Nat} {fr : List Str}
theorem je_comp (hc : X.calm = true) (ok : CompOk X scope x js fr) (hi : JI X (.Name x px) iter wi) (ht : ∀ cl C s H fp, JTs (cxComp X scope cl C (x :: fr) s H fp) ifs tc) (he : ∀ cl C s H fp, JE (cxComp X scope cl C (x :: fr) s H fp) elt te) (hs : ∀ z, foldedSetIterable iter X.env z = pure z := by intro _; rfl) : JE X (.ListComp elt [⟨.Name x px, iter, ifs, 0⟩] scope pos) (tComp wi js tc te) := ⟨pe_comp hc ok hi.h (fun cl C s H fp => (ht cl C s H fp).h) (fun cl C s H fp => (he cl C s H fp).h) hs⟩
end
section
variable {X : Cx} {C : Addr} {k : Nat} {ps : List Str} {sp : Sp} {x m : Str} {p pos apos : Pos} {e o : Expr} {es : List Expr} {ta : TE} {t : TA}
theorem je_callD (D : DefOk X.prog X.w X.K X.mg X.base x k ps sp) (hr : Room k X.A) (hg : Gl X x) (ha : JA X (e :: es) t) (hdb : (x == ("__debug__" : Str)) = false := by decide) (he : starEach (e :: es) X.env = (false, eval e X.env) :: starEach es X.env := by rfl) (hpl : (backTo pos (starEach es X.env)).any (·.1) = false := by rfl) : JE X (.Call (.Name x p) (e :: es) [] pos) (tCall sp [] E0 t) := ⟨pe_callD D hr hg ha.h hdb he hpl⟩
end
section
variable {X : Cx} {C : Addr} {k : Nat} {ps : List Str} {sp : Sp} {x m : Str} {p pos apos : Pos} {e o : Expr} {es : List Expr} {ta : TE} {t : TA}
theorem je_makeD (D : MakeOk X.prog X.w X.K X.mg X.base x C k ps sp) (hr : Room (k + 1) X.A) (hg : Gl X x) (ha : JA X (e :: es) t) (hdb : (x == ("__debug__" : Str)) = false := by decide) (he : starEach (e :: es) X.env = (false, eval e X.env) :: starEach es X.env := by rfl) (hpl : (backTo pos (starEach es X.env)).any (·.1) = false := by rfl) : JE X (.Call (.Name x p) (e :: es) [] pos) (tMakeS C sp t) := ⟨pe_makeD D hr hg ha.h hdb he hpl⟩
end
section
variable {X : Cx} {C : Addr} {k : Nat} {ps : List Str} {sp : Sp} {x m : Str} {p pos apos : Pos} {e o : Expr} {es : List Expr} {ta : TE} {t : TA}
theorem je_methD {pl : Sem Bool} (D : MethOk X.prog X.w X.K X.mg X.base C m k ps sp) (ho : JE X o ta) (hr : Room k X.A) (ha : JA X (e :: es) t) (hst : starEach (e :: es) X.env = (false, eval e X.env) :: starEach es X.env := by rfl) (hpl : (backTo pos (starEach es X.env)).any (·.1) = false := by rfl) (ht : eval (.Call (.Attribute o m apos) (e :: es) [] pos) X.env = (do
         let ov ← eval o X.env
         standAt apos.atName
         let (f, first) ← holding [ov] (getMethod ov m pl)
         callWith pos f first (backTo pos (starEach (e :: es) X.env)) (backToKw pos (keywordEach [] X.env))) := by rfl) : JE X (.Call (.Attribute o m apos) (e :: es) [] pos) (tMeth C m sp [] E0 ta t) := ⟨pe_methD D ho.h hr ha.h hst hpl ht⟩
end
section
variable {X : Cx} {x : Str} {p pos : Pos} {e : Expr} {es : List Expr} {t : TA} {id T : String} {r : List V → Hp → VK → Prop}
theorem je_callB (hc : CallR X (.builtin id) r) (hg : Gl X x) (hm : X.mg x = none) (hv : bootBuiltins x = some (.builtin id)) (ha : JA X (e :: es) t) (hn : x ≠ "__name__" := by decide) (hdb : (x == ("__debug__" : Str)) = false := by decide) (he : starEach (e :: es) X.env = (false, eval e X.env) :: starEach es X.env := by rfl) (hpl : (backTo pos (starEach es X.env)).any (·.1) = false := by rfl) : JE X (.Call (.Name x p) (e :: es) [] pos) (tCB r t) := ⟨pe_callB hc hg hm hv ha.h hn hdb he hpl⟩
end
section
variable {X : Cx} {x : Str} {p pos : Pos} {e : Expr} {es : List Expr} {t : TA} {id T : String} {r : List V → Hp → VK → Prop}
theorem je_callTy (hc : CallR X (.type T) r) (hg : Gl X x) (hm : X.mg x = none) (hv : bootBuiltins x = some (.type T)) (ha : JA X (e :: es) t) (hn : x ≠ "__name__" := by decide) (hdb : (x == ("__debug__" : Str)) = false := by decide) (he : starEach (e :: es) X.env = (false, eval e X.env) :: starEach es X.env := by rfl) (hpl : (backTo pos (starEach es X.env)).any (·.1) = false := by rfl) : JE X (.Call (.Name x p) (e :: es) [] pos) (tCB r t) := ⟨pe_callTy hc hg hm hv ha.h hn hdb he hpl⟩
end
section
variable {X : Cx} {a b : Expr} {ta tb : TE} {pos : Pos}
variable {o e : Expr} {es : List Expr} {to : TE} {t : TA} {name : Str} {apos cpos : Pos} {T id : String} {r : V → List V → Hp → VK → Prop}
theorem je_bm (pa : PlainAttrs T) (slot : Slot T name id) (hty : typeOf (.builtin id) = pure (.type "method_descriptor")) (hm : MtR X id r) (ho : JE X o to) (ha : JA X (e :: es) t) (hbase : attributeBase o name X.env (eval o X.env) = eval o X.env := by rfl) (hfew : ((backTo cpos (starEach (e :: es) X.env)).all (fun x => !x.1) && (backToKw cpos (keywordEach [] X.env)).all (fun x => x.1.isSome)
         && decide ((e :: es).length + ([] : List Keyword).length + (if ([] : List Keyword).isEmpty then 0 else 1) < 30)) = true := by rfl) (hline : (apos.endLine == cpos.line) = true := by rfl) (hs : starEach (e :: es) X.env = (false, eval e X.env) :: starEach es X.env := by rfl) (hplain : (backTo cpos (starEach es X.env)).any (·.1) = false := by rfl) : JE X (.Call (.Attribute o name apos) (e :: es) [] cpos) (tBM X.K T r to t) := ⟨pe_bm pa slot hty hm ho.h ha.h hbase hfew hline hs hplain⟩
end
section
variable {X : Cx} {a b : Expr} {ta tb : TE} {pos : Pos}
variable {o e : Expr} {es : List Expr} {to : TE} {t : TA} {name : Str} {apos cpos : Pos} {T id : String} {r : V → List V → Hp → VK → Prop}
theorem je_bm0 (pa : PlainAttrs T) (slot : Slot T name id) (hty : typeOf (.builtin id) = pure (.type "method_descriptor")) (hm : MtR X id r) (ho : JE X o to) (hbase : attributeBase o name X.env (eval o X.env) = eval o X.env := by rfl) (hline : (apos.endLine == cpos.line) = true := by rfl) : JE X (.Call (.Attribute o name apos) [] [] cpos) (tBM0 X.K T r to) := ⟨pe_bm0 pa slot hty hm ho.h hbase hline⟩
end
section
theorem je_globI {X : Cx} {x : Str} {i : Int} {tk : Tok} {pos : Pos} (hg : Gl X x) (hm : X.mg x = some (.int i tk)) (hd : (x == ("__debug__" : Str)) = false := by decide) : JE X (.Name x pos) (tC (.int i)) := ⟨pe_globI hg hm hd⟩
end
section
variable {X : Cx} {C : Addr} {k : Nat} {ps : List Str} {sp : Sp} {x m : Str} {p pos apos : Pos} {e o : Expr} {es : List Expr} {ta : TE} {t : TA}
theorem je_ty {n : String} (hg : Gl X x) (hm : X.mg x = none) (hv : bootBuiltins x = some (.type n)) (hn : x ≠ "__name__" := by decide) (hd : (x == ("__debug__" : Str)) = false := by decide) : JE X (.Name x pos) (tC (.ty n)) := ⟨pe_ty hg hm hv hn hd⟩
end
section
variable {X : Cx} {a b c : Expr} {ta tb tc : TE} {pos : Pos}
theorem jt_cmpR {op : CmpOp} {r : R2} (ho : OpR X (compareOp op) r) (ha : JE X a ta) (hb : JE X b tb) (hm : behindInMarks op b = false) : JT X (.Compare a [op] [b] pos) (tTest (tOp r ta tb)) := ⟨pt_cmpR ho ha.h hb.h hm⟩
end
section
variable {X : Cx} {a b c : Expr} {ta tb tc : TE} {pos : Pos}
theorem jt_chain {op op' : CmpOp} {r r' : R2} (ho : OpR X (compareOp op) r) (ho' : OpR X (compareOp op') r') (ha : JE X a ta) (hb : JE X b tb) (hc : JE X c tc) (hm : lastMarks [op, op'] [b, c] = false := by with_unfolding_all rfl) : JT X (.Compare a [op, op'] [b, c] pos) (tTest (tChain r r' ta tb tc)) := ⟨pt_chain ho ho' ha.h hb.h hc.h hm⟩
end
section
variable {X : Cx}
variable {a b : Expr} {ta tb : TE} {pos : Pos}
theorem jt_val {e : Expr} {t : TE} (h : JE X e t) (he : ∀ whole, isTrue e X.env whole = (do let v ← whole; standAt e.pos; holding [v] (truthy v)) := by intro _; rfl) : JT X e (tB t) := ⟨pt_val h.h he⟩
end
section
variable {X : Cx}
variable {a b : Expr} {ta tb : TE} {pos : Pos}
variable {tA tB' : TT} {rest : List Expr}
theorem jt_not (ha : JT X a tA) : JT X (.UnaryOp .Not a pos) (tNot tA) := ⟨pt_not ha.h⟩
end
section
theorem jw_pt {X : Cx} {e : Expr} {t : TT} (h : JW X e t) : JT X e t := ⟨PW.pt h.h⟩
end
section
variable {X : Cx}
variable {a b : Expr} {ta tb : TE} {pos : Pos}
variable {tA tB' : TT} {rest : List Expr}
theorem jw_and (ha : JT X a tA) (hb : JW X (.BoolOp .And (b :: rest) pos) tB') : JW X (.BoolOp .And (a :: b :: rest) pos) (tAnd tA tB') := ⟨pw_and ha.h hb.h⟩
end
section
variable {X : Cx}
variable {a b : Expr} {ta tb : TE} {pos : Pos}
variable {tA tB' : TT} {rest : List Expr}
theorem jw_or (ha : JT X a tA) (hb : JW X (.BoolOp .Or (b :: rest) pos) tB') : JW X (.BoolOp .Or (a :: b :: rest) pos) (tOr tA tB') := ⟨pw_or ha.h hb.h⟩
end
section
variable {X : Cx}
variable {a b : Expr} {ta tb : TE} {pos : Pos}
variable {tA tB' : TT} {rest : List Expr}
theorem jw_and1 (ha : JT X a tA) : JW X (.BoolOp .And [a] pos) tA := ⟨pw_and1 ha.h⟩
end
section
variable {X : Cx}
variable {a b : Expr} {ta tb : TE} {pos : Pos}
variable {tA tB' : TT} {rest : List Expr}
theorem jw_or1 (ha : JT X a tA) : JW X (.BoolOp .Or [a] pos) tA := ⟨pw_or1 ha.h⟩
end
section
variable {X : Cx} {e : Expr} {es : List Expr} {te : TE} {t : TA} {pos : Pos}
theorem ja_nil  : JA X [] tNil := ⟨pa_nil⟩
end
section
variable {X : Cx} {e : Expr} {es : List Expr} {te : TE} {t : TA} {pos : Pos}
theorem ja_cons (ha : JE X e te) (hr : JA X es t) (hs : starEach (e :: es) X.env = (false, eval e X.env) :: starEach es X.env := by rfl) : JA X (e :: es) (tCons te t) := ⟨pa_cons ha.h hr.h hs⟩
end
section
variable {X : Cx} {C : Addr} {k : Nat} {ps : List Str} {sp : Sp} {x m : Str} {p pos apos : Pos} {e o : Expr} {es : List Expr} {ta : TE} {t : TA}
theorem ja_ints {es : List Expr} {is : List Int} (h : AllInts es is) : JA X es (tInts is) := ⟨pa_ints h⟩
end
section
variable {X : Cx} {e : Expr} {te : TE} {lo hi : Option Expr} {tl th : TO} {pos p2 : Pos}
theorem jo_none  : JO X none tNoPart := ⟨po_none⟩
end
section
variable {X : Cx} {e : Expr} {te : TE} {lo hi : Option Expr} {tl th : TO} {pos p2 : Pos}
theorem jo_some (h : JE X e te) : JO X (some e) (tPart te) := ⟨po_some h.h⟩
end
section
variable {X : Cx} {tg : Expr}
theorem ji_list {l : Expr} {tl : TE} (hl : JE X l tl) : JI X tg l (iList X.K tl) := ⟨pi_list hl.h⟩
end
section
variable {X : Cx} {tg : Expr}
theorem ji_range1 {a : Expr} {ta : TA} {p pos : Pos} (hg : Gl X "range") (hm : X.mg "range" = none) (ha : JA X [a] ta) (hs : starEach [a] X.env = [(false, eval a X.env)] := by rfl) : JI X tg (.Call (.Name "range" p) [a] [] pos) (iRng1 ta) := ⟨pi_range1 hg hm ha.h hs⟩
end
section
variable {X : Cx} {tg : Expr}
theorem ji_range2 {a b : Expr} {ta : TA} {p pos : Pos} (hg : Gl X "range") (hm : X.mg "range" = none) (ha : JA X [a, b] ta) (hs : starEach [a, b] X.env = [(false, eval a X.env), (false, eval b X.env)] := by rfl) (hs2 : starEach [b] X.env = [(false, eval b X.env)] := by rfl) : JI X tg (.Call (.Name "range" p) [a, b] [] pos) (iRng2 ta) := ⟨pi_range2 hg hm ha.h hs hs2⟩
end
section
variable {X : Cx} {tg : Expr}
theorem ji_tup {l : Expr} {tl : TE} (hl : JE X l tl) : JI X tg l (iTup X.K tl) := ⟨pi_tup hl.h⟩
end
section
variable {X : Cx} {pos : Pos}
theorem jg_name {i : Nat} {x : Str} (hN : X.N.Nodup) (hi : X.N[i]? = some x) (hx : Loc X.env.scope x) (hf : X.fn x = true ∨ X.env.scope.names.lookup x = some .local := by first | exact .inl rfl | exact .inr rfl | assumption) : JG X (.Name x pos) (gName i) := ⟨pg_name hN hi hx hf⟩
end
section
variable {X : Cx} {pos : Pos}
theorem jg_lst {es : List Expr} {k : Nat} {t : TGs} {n : Nat} (hc : X.calm = true) (h : JGs X es t) (hn : (assignEach es X.env).length = n := by rfl) (hst : (assignEach es X.env).findIdx? (·.1) = none := by rfl) : JG X (.Tuple es k pos) (gLst X.K n t) := ⟨pg_lst hc h.h hn hst⟩
end
section
variable {X : Cx} {pos : Pos}
theorem jg_tup {es : List Expr} {k : Nat} {t : TGs} {n : Nat} (hc : X.calm = true) (h : JGs X es t) (hn : (assignEach es X.env).length = n := by rfl) (hst : (assignEach es X.env).findIdx? (·.1) = none := by rfl) : JG X (.Tuple es k pos) (gTup X.K n t) := ⟨pg_tup hc h.h hn hst⟩
end
section
variable {X : Cx} {pos : Pos}
theorem jg_sub {o i : Expr} {to ti : TE} {t : TSet} (ho : JE X o to) (hi : JE X i ti) (hs : PSet X t) (ha : ∀ v, assign (.Subscript o i pos) X.env v = (do
         let ov ← holding [v] (eval o X.env)
         let iv ← holding [v, ov] (eval i X.env)
         standAt pos
         holding [v, ov, iv] (setItem ov iv v)
         release [v, ov, iv] []) := by intro _; rfl) : JG X (.Subscript o i pos) (gSub to ti t) := ⟨pg_sub ho.h hi.h hs ha⟩
end
section
variable {X : Cx} {pos : Pos}
theorem jgs_nil  : JGs X [] gNil := ⟨pgs_nil⟩
end
section
variable {X : Cx} {pos : Pos}
theorem jgs_cons {e : Expr} {es : List Expr} {t : TG} {u : TGs} (h1 : JG X e t) (h2 : JGs X es u) (hs : (assignEach (e :: es) X.env).map (·.2) = assign e X.env :: (assignEach es X.env).map (·.2) := by rfl) : JGs X (e :: es) (gCons t u) := ⟨pgs_cons h1.h h2.h hs⟩
end
section
theorem jts_nil {X : Cx} : JTs X [] tYes := ⟨pts_nil⟩
end
section
theorem jts_one {X : Cx} {c : Expr} {t : TT} (h : JT X c t) : JTs X [c] t := ⟨pts_one h.h⟩
end
section
variable {X : Cx} {pos : Pos}
theorem js_set {i : Nat} {x : Str} {e : Expr} {te : TE} {pos' : Pos} (hN : X.N.Nodup) (hi : X.N[i]? = some x) (hx : Loc X.env.scope x) (he : JE X e te) (hs : swapsWith e (some (.Name x pos')) pos.line X.env = pure false := by rfl) (hf : X.fn x = true ∨ X.env.scope.names.lookup x = some .local := by first | exact .inl rfl | exact .inr rfl | assumption) : JS X (.Assign [.Name x pos'] e pos) (tAsg te (gName i)) := ⟨ps_set hN hi hx he.h hs hf⟩
end
section
variable {X : Cx} {x y : Str} {px py pos spos : Pos} {iter elt : Expr} {ifs : List Expr} {scope : Scope} {wi : TI} {tc : TT} {te : TE} {js : List Nat} {fr : List Str}
theorem js_setComp {i : Nat} (hc : X.calm = true) (ok : CompOk X scope x js fr) (hN : X.N.Nodup) (hiN : X.N[i]? = some y) (hy : X.env.scope.names.lookup y = some .local) (hi : JI X (.Name x px) iter wi) (ht : ∀ cl C s H fp, JTs (cxComp X scope cl C (x :: fr) s H fp) ifs tc) (he : ∀ cl C s H fp, JE (cxComp X scope cl C (x :: fr) s H fp) elt te) (hsw : swapsWith (.ListComp elt [⟨.Name x px, iter, ifs, 0⟩] scope pos) (some (.Name y py)) spos.line X.env = pure true) (hs : ∀ z, foldedSetIterable iter X.env z = pure z := by intro _; rfl) : JS X (.Assign [.Name y py] (.ListComp elt [⟨.Name x px, iter, ifs, 0⟩] scope pos) spos) (tAsg (tComp wi js tc te) (gName i)) := ⟨ps_setComp hc ok hN hiN hy hi.h (fun cl C s H fp => (ht cl C s H fp).h) (fun cl C s H fp => (he cl C s H fp).h) hsw hs⟩
end
section
variable {X : Cx} {o e value : Expr} {f : Str} {pos pos' tpos : Pos} {ta tv : TE}
theorem js_fld (ha : JE X o ta) (hv : JE X value tv) (hs : swapsWith value (some (.Attribute o f pos')) pos.line X.env = pure false) : JS X (.Assign [.Attribute o f pos'] value pos) (sFld X.K ta tv f) := ⟨ps_fld ha.h hv.h hs⟩
end
section
variable {X : Cx} {pos : Pos}
theorem js_asg {tg e : Expr} {te : TE} {g : TG} (he : JE X e te) (hg : JG X tg g) (hs : swapsWithSole [tg] e pos.line X.env = pure false := by rfl) (hw : swappedStores [tg] e X.env = pure none := by rfl) (h1 : (assignEach [tg] X.env).map (·.2) = [assign tg X.env] := by rfl) : JS X (.Assign [tg] e pos) (tAsg te g) := ⟨ps_asg he.h hg.h hs hw h1⟩
end
section
variable {X : Cx} {pos : Pos}
theorem js_aug {i : Nat} {x : Str} {e : Expr} {te : TE} {op : Operator} {ti : TIp} {pos' : Pos} (hN : X.N.Nodup) (hi : X.N[i]? = some x) (hx : Loc X.env.scope x) (he : JE X e te) (ho : PIp X op ti) (hf : X.fn x = true ∨ X.env.scope.names.lookup x = some .local := by first | exact .inl rfl | exact .inr rfl | assumption) : JS X (.AugAssign (.Name x pos') op e pos) (tAug i te ti) := ⟨ps_aug hN hi hx he.h ho hf⟩
end
section
variable {X : Cx} {st : Stmt} {rest : List Stmt} {t u : TS} {e : Expr} {te : TE} {pos : Pos}
theorem js_if {c : Expr} {a b : List Stmt} {tc : TT} (hc : JT X c tc) (ha : JSs X a t) (hb : JSs X b u) : JS X (.If c a b pos) (tIfS tc t u) := ⟨ps_if hc.h ha.h hb.h⟩
end
section
variable {X : Cx} {pos : Pos}
theorem js_while {c : Expr} {body : List Stmt} {tc : TT} {tb : TS} (hp : PassesOwn (model X.prog X.w) X.A X.env X.xe) (hc : JT X c tc) (hb : JSs X body tb) : JS X (.While c body [] pos) (tWhile tc tb) := ⟨ps_while hp hc.h hb.h⟩
end
section
variable {X : Cx} {tg : Expr}
theorem js_for {iter : Expr} {body : List Stmt} {wi : TI} {g : TG} {tb : TS} {pos : Pos} (hp : PassesOwn (model X.prog X.w) X.A X.env X.xe) (hc : X.calm = true) (hi : JI X tg iter wi) (hg : JG X tg g) (hb : JSs X body tb) (hs : ∀ x, foldedSetIterable iter X.env x = pure x := by intro _; rfl) : JS X (.For tg iter body [] pos) (tFor wi g tb) := ⟨ps_for hp hc hi.h hg.h hb.h hs⟩
end
section
variable {X : Cx} {st : Stmt} {rest : List Stmt} {t u : TS} {e : Expr} {te : TE} {pos : Pos}
theorem js_ret (he : JE X e te) : JS X (.Return (some e) pos) (tRet te) := ⟨ps_ret he.h⟩
end
section
variable {X : Cx} {st : Stmt} {rest : List Stmt} {t u : TS} {e : Expr} {te : TE} {pos : Pos}
theorem js_retN  : JS X (.Return none pos) tRetN := ⟨ps_retN⟩
end
section
variable {X : Cx} {st : Stmt} {rest : List Stmt} {t u : TS} {e : Expr} {te : TE} {pos : Pos}
theorem js_expr (he : JE X e te) (hs : swapsWith e none pos.line X.env = pure false := by rfl) : JS X (.Expr e pos) (tDrop te) := ⟨ps_expr he.h hs⟩
end
section
variable {X : Cx} {st : Stmt} {rest : List Stmt} {t u : TS} {e : Expr} {te : TE} {pos : Pos}
theorem js_pass  : JS X (.Pass pos) tNext := ⟨ps_pass⟩
end
section
variable {X : Cx} {st : Stmt} {rest : List Stmt} {t u : TS} {e : Expr} {te : TE} {pos : Pos}
theorem js_never  : JS X st tNever := ⟨ps_never⟩
end
section
variable {X : Cx} {st : Stmt} {rest : List Stmt} {t u : TS} {e : Expr} {te : TE} {pos : Pos}
theorem js_break  : JS X (.Break pos) tBreak := ⟨ps_break⟩
end
section
variable {X : Cx} {st : Stmt} {rest : List Stmt} {t u : TS} {e : Expr} {te : TE} {pos : Pos}
theorem js_continue  : JS X (.Continue pos) tCont := ⟨ps_continue⟩
end
section
variable {X : Cx} {st : Stmt} {rest : List Stmt} {t u : TS} {e : Expr} {te : TE} {pos : Pos}
theorem jss_nil  : JSs X [] tNext := ⟨pss_nil⟩
end
section
variable {X : Cx} {st : Stmt} {rest : List Stmt} {t u : TS} {e : Expr} {te : TE} {pos : Pos}
theorem jss_one (h1 : JS X st t) : JSs X [st] t := ⟨pss_one h1.h⟩
end
section
variable {X : Cx} {st : Stmt} {rest : List Stmt} {t u : TS} {e : Expr} {te : TE} {pos : Pos}
theorem jss_cons (h1 : JS X st t) (h2 : JSs X rest u) : JSs X (st :: rest) (tSeq t u) := ⟨pss_cons h1.h h2.h⟩
end
section
variable {X : Cx} {st : Stmt} {rest : List Stmt} {t u : TS} {e : Expr} {te : TE} {pos : Pos}
theorem jss_never {sts : List Stmt} : JSs X sts tNever := ⟨pss_never⟩
end
section
variable {P : Program} {w : World} {K : PySem.W.Frag} {mg : Str → Option Value} {base : Heap}
theorem Fun.okJ {x qual : Str} {st : Stmt} {f : Addr} {fd : FuncData} {N ps : List Str} {k : Nat} {sp : Sp} (F : Fun K x qual st f fd) (S : FnScope N ps (defScope st)) (len : ∀ vs H Q E, sp vs H Q E → vs.length = ps.length)
    (hbody : ∀ (cdv : Value) (A : Around) (outer : List Env) (s : Shared) (H : Hp) (vs : List V) (Q : VK) (E : XK), Room k (A.deeper (envOfC qual (defScope st) s.heap.objs.size f cdv)) → sp vs H Q E →
      ∃ t, JSs (cxOf CX0 P w K mg base N qual (defScope st) f cdv A outer s H E).nox (defBody st) t ∧ t { nx := fun _ H' => Q .non H', rt := Q } (start N vs) H) : FnOk P w K mg base CX0 (k + 1) f fd ps sp :=
  F.ok S len fun cdv A outer s H vs Q E hr h => let ⟨t, a, b⟩ := hbody cdv A outer s H vs Q E hr h; ⟨t, a.h, b⟩
end
end L2
namespace L2
open PySem PySem.Spec PyProof.Rows
section
variable {X : Cx}
/-! ### sorted of ints (below 64), set of ints and its len -/
def rSorted (K : PySem.W.Frag) : List V → Hp → VK → Prop := fun xs H Q => ∃ (p : Addr) (ns : List Int), xs = [.ref p] ∧ SqL K H p (ns.map V.int) ∧ ns.length < 64 ∧ ∀ ms : List Int, ms.Perm ns → ms.Pairwise (· ≤ ·) → NewL H Q (ms.map V.int)
theorem call_sorted_of : CallR X (.builtin "sorted") (rSorted X.K) := by
  intro pins s σ H xs us Q I r h
  obtain ⟨p, ns, rfl, hq, h64, q⟩ := h
  obtain ⟨u, rfl, rx⟩ := vals1 r
  cases rx
  obtain ⟨its, rv, pl, hz⟩ := I.list hq
  have hlen : ns.length = its.length := by rw [← rv.length, List.length_map]
  refine sorted_ints (vs := its) pl.isList (intsAre_of rv) (by omega) fun out ms a1 a2 a3 => ?_
  obtain ⟨e, he⟩ := sortedAll_at s.heap its out
  refine ⟨.ref (s.heap.objs.size + 1), _, I.laid (t' := s.toks) (o := .lst (ms.map V.int)) (fun b u => sortedAll_old) (Nat.le_succ _) ?_, rfl, (q ms a2 a3).upd _ (I.hok.fresh (Nat.le_succ _))⟩
  refine ⟨?_, out.toList, e, vals_ints a1, by simpa using he⟩
  rw [List.length_map, a2.length_eq, hlen]
  rw [List.length_map, hlen] at hz
  exact hz
def distinct (ns : List Int) : List Int := firstMet (fun i => ns.getD i 0) ns.length
def rSet (K : PySem.W.Frag) : List V → Hp → VK → Prop := fun xs H Q => ∃ (p : Addr) (ns : List Int), xs = [.ref p] ∧ SqL K H p (ns.map V.int) ∧ ns.length + 1 < 4096 ∧
  ∀ (a : Addr) (H2 : Hp) (S : Int → Bool), H a = none → H2 a = some (.set S (distinct ns).length) → Same H H2 → Q (.ref a) H2
theorem call_set_of (hc : X.calm = true) : CallR X (.type "set") (rSet X.K) := by
  intro pins s σ H xs us Q I r h
  obtain ⟨p, ns, rfl, hq, hb, q⟩ := h
  obtain ⟨u, rfl, rx⟩ := vals1 r
  cases rx
  obtain ⟨its, rv, pl, hz⟩ := I.list hq
  have hlen : ns.length = its.length := by rw [← rv.length, List.length_map]
  refine call_set_list (ns := ns) (I.ok.hd hc) pl.isList (by simpa using intsAre_of rv) (by show its.toArray.size + 1 < 4096; simp only [List.size_toArray]; omega) fun h' tk hs hk => ?_
  have hn : H s.heap.objs.size = none := I.hok.fresh (Nat.le_refl _)
  have es : its.toArray.size = ns.length := by simp only [List.size_toArray]; omega
  rw [es] at hs
  exact ⟨.ref s.heap.objs.size, _, I.laid (t' := tk) (o := .set (fun k' => (distinct ns).any fun x => x == k') (distinct ns).length) (fun b o e => hk b o (Heap.lt_size e) e) (Nat.le_refl _) hs, rfl, q _ _ _ hn upd_same (same_new hn _)⟩
def rLenSet : List V → Hp → VK → Prop := fun xs H Q => ∃ (p : Addr) (S : Int → Bool) (n : Nat), xs = [.ref p] ∧ H p = some (.set S n) ∧ n ≤ 4096 ∧ Q (.int n) H
theorem call_len_setS : CallR X (.builtin "len") rLenSet := by
  intro pins s σ H xs us Q I r h
  obtain ⟨p, S, n, rfl, hp, hn, q⟩ := h
  obtain ⟨u, rfl, rx⟩ := vals1 r
  cases rx
  have so : s.heap.SetOf (intKind X.prog X.w) p S n := I.hok p _ hp
  obtain ⟨o, es, ep, t, h1, h2, h3, _, _, h4, h5, rfl⟩ := so
  exact call_len_set h1 h2 h3 h5 (by omega) ⟨.int _, H, I.tok _, ⟨_, rfl⟩, q⟩
/-- an index, the text's part named apart (for a comprehension's block) -/
theorem ixK (K : PySem.W.Frag) (h : X.K = K) : IxR X (rIxL K) := by
  subst h
  exact ix_list
end
end L2
namespace L2
open PySem PySem.Spec PyProof.Rows
section
variable {X : Cx}
/-! ### sum of a list of ints -/
def rSum (K : PySem.W.Frag) : List V → Hp → VK → Prop := fun xs H Q => ∃ (p : Addr) (ns : List Int), xs = [.ref p] ∧ SqL K H p (ns.map V.int) ∧ PyProof.Rows.SumFits ns ∧ Q (.int ns.sum) H
theorem call_sum_of (hc : X.calm = true) : CallR X (.builtin "sum") (rSum X.K) := by
  intro pins s σ H xs us Q I r h
  obtain ⟨p, ns, rfl, hq, fits, q⟩ := h
  obtain ⟨u, rfl, rx⟩ := vals1 r
  cases rx
  obtain ⟨its, rv, pl, hz⟩ := I.list hq
  have hlen : its.toArray.size = ns.length := by
    have := rv.length
    rw [List.length_map] at this
    simp [this]
  have hp : p < s.heap.objs.size := by
    obtain ⟨o, ho, _⟩ := pl.isList
    exact Heap.lt_size ho
  refine call_sum_walk (wpAny_pyIter_list pl.isList ?_)
  refine ⟨s.heap.objs.size, _, _, _, _, _, fun i => ns.getD i 0, rfl, Walks.list (A := X.A.in1) (I.ok.hd hc) s.heap.objs.size p (Nat.ne_of_lt hp) its.toArray, ⟨⟨_, Heap.get?_push_size _ rfl, rfl, rfl⟩, pl.isList.at fun o e => Heap.get?_push_of_some _ e⟩, fun b hb => ?_, fun i v hv => ?_, fun j hj => ?_, fun h' tk t' hk => ?_⟩
  · rw [Heap.size_push]
    rcases List.mem_cons.mp hb with e | hb
    · rw [e]; exact Nat.lt_succ_self _
    · rw [List.mem_singleton.mp hb]; exact Nat.lt_succ_of_lt hp
  · have hv : its[i]? = some v := by simpa using hv
    have hi : i < its.length := (List.getElem?_eq_some_iff.mp hv).1
    have hi' : i < ns.length := by rw [← hlen]; simpa using hi
    obtain ⟨u, h1, h2⟩ := rv.get (i := i) (x := .int (ns.getD i 0)) (by rw [List.getElem?_map, List.getElem?_eq_getElem hi', List.getD_eq_getElem?_getD, List.getElem?_eq_getElem hi'] <;> rfl)
    rw [hv] at h1
    cases h1
    exact h2
  · rw [hlen] at hj
    obtain ⟨f1, f2⟩ := fits j hj
    refine ⟨f1, ?_⟩
    rw [PyProof.Rows.preSum_getD]
    exact f2
  · have e : preSum (fun i => ns.getD i 0) its.toArray.size = ns.sum := by rw [PyProof.Rows.preSum_getD, hlen, List.take_length]
    rw [e]
    refine ⟨.int _, H, I.kept (t' := tk) fun b o e => hk b o (fun z => ?_) (Heap.get?_push_of_some _ e), ⟨_, rfl⟩, q⟩
    have := Heap.lt_size e
    rw [List.mem_singleton.mp z] at this
    exact absurd this (Nat.lt_irrefl _)
/-- few numbers from 0 to a million -/
theorem sum_bound : ∀ {l : List Int}, (∀ x ∈ l, 0 ≤ x ∧ x ≤ 1000000) → 0 ≤ l.sum ∧ l.sum ≤ 1000000 * (l.length : Int)
  | [], _ => ⟨Int.le_refl 0, Int.le_refl 0⟩
  | x :: r, h => by
    obtain ⟨a, b⟩ := h x (.head _)
    obtain ⟨c, d⟩ := sum_bound fun y hy => h y (.tail _ hy)
    rw [List.sum_cons, List.length_cons]
    omega
theorem fits_of {ns : List Int} (h : ∀ x ∈ ns, 0 ≤ x ∧ x ≤ 1000000) (hl : ns.length ≤ 1000) : PyProof.Rows.SumFits ns := by
  intro j hj
  have e : ns.getD j 0 = ns[j] := by
    rw [List.getD_eq_getElem?_getD, List.getElem?_eq_getElem hj]
    rfl
  obtain ⟨a, b⟩ := h _ (List.getElem_mem hj)
  obtain ⟨c, d⟩ := sum_bound (l := ns.take (j + 1)) fun x hx => h x (List.mem_of_mem_take hx)
  have g : (ns.take (j + 1)).length ≤ 1000 := Nat.le_trans (by rw [List.length_take]; omega) hl
  rw [e]
  exact ⟨⟨by omega, by omega⟩, ⟨by omega, by omega⟩⟩
end
end L2
namespace L2
open PySem PySem.Spec PyProof.Rows
section
variable {X : Cx} {tg : Expr}
/-! ### for x in reversed(a list) -/
def Itv (K : PySem.W.Frag) (a : Addr) (n : Nat) : It :=
  ⟨fun i H => ∃ xs, SqL K H a xs ∧ xs.length = n ∧ i < n, fun i H x H' => H' = H ∧ ∀ xs, SqL K H a xs → xs[n - 1 - i]? = some x, fun i _ => n ≤ i⟩
theorem turn_rev {P : Program} {w : World} {K : PySem.W.Frag} {tg : Expr} (a it : Addr) (n : Nat) : Turn P w K tg (Itv K a n) [it] it (fun i h => i ≤ n ∧ h.IsRevIter it a ((n : Int) - 1 - (i : Int))) where
  mem := by simp
  obj := fun i h st b hb => by
    have e : b = it := by simpa using hb
    subst e
    obtain ⟨_, o, e, c, d⟩ := st
    exact ⟨o, e, fun v z => by rw [d] at z; cases z⟩
  keep := fun i h h' st k => ⟨st.1, st.2.at fun o e => k it (by simp) o e⟩
  item := by
    intro X hP hw hK hc i pins s σ H E I hf st hg
    subst hP hw hK
    obtain ⟨xs, hq, hn, hi⟩ := hg
    obtain ⟨its, rv, p, hz⟩ := I.list hq
    have hx : xs[n - 1 - i]? = some (xs[n - 1 - i]'(by omega)) := List.getElem?_eq_getElem (by omega)
    obtain ⟨u, hu, ru⟩ := rv.get hx
    obtain ⟨f0, f1, f2, f3, f4, f5⟩ := hf it (by simp)
    have e1 : (n : Int) - 1 - (i : Int) = ((n - 1 - i : Nat) : Int) := by omega
    have st2 := st.2
    rw [e1] at st2
    refine wpAny_pyNext_rev_item st2 p.isList (x := u) (by simpa using hu) fun h' st' sb => ?_
    have I1 : Inv X pins σ H { s with heap := h' } := I.turned (t' := s.toks) (fun b o hb e => (sb.2 b hb).trans e) f0 f1 f3 f4 f5
    have e2 : ((n - 1 - i : Nat) : Int) - 1 = (n : Int) - 1 - ((i + 1 : Nat) : Int) := by omega
    rw [e2] at st'
    obtain ⟨o, e, c, d⟩ := id st'
    exact ⟨u, rfl, go_of (s := { s with heap := h' }) e c d (by decide) ⟨_, H, I1, ru, ⟨rfl, fun ys hy => by rw [I.list_inj hy hq]; exact hx⟩, ⟨hi, st'⟩, fun b hb => (hf b hb).1⟩⟩
  done := by
    intro X hP hw hK hc i pins s σ H E I hf st hg
    subst hP hw hK
    obtain ⟨f0, f1, f2, f3, f4, f5⟩ := hf it (by simp)
    have hg : n ≤ i := hg
    have st2 := st.2
    rw [show (n : Int) - 1 - (i : Int) = -1 by have := st.1; omega] at st2
    exact wpAny_pyNext_rev_end (I.ok.hd hc) st2 fun h' eb => ⟨rfl, I.turned (t' := s.toks) (fun b o hb e => eb b o hb e) f0 f1 f3 f4 f5⟩
  self := fun _ _ _ _ _ st h => wpAny_pyIter_revIter st.2 h
def iRev (K : PySem.W.Frag) (ta : TA) : TI := fun σ H R => ta σ H fun vs H1 => ∃ a xs, vs = [.ref a] ∧ SqL K H1 a xs ∧ R (Itv K a xs.length) H1
theorem pi_rev {a : Expr} {ta : TA} {p pos : Pos} (hg : Gl X "reversed") (hm : X.mg "reversed" = none) (ha : PA X [a] ta) (hs : starEach [a] X.env = [(false, eval a X.env)] := by rfl) : PI X tg (.Call (.Name "reversed" p) [a] [] pos) (iRev X.K ta) := by
  intro pins s σ H R I h
  refine Call_ (ld_blt I hg hm (u := .type "reversed") (by rfl) (PyProof.Rows.callWith_type1 (thn (ha pos pins s σ H _ I h) fun us s1 ⟨vs, H1, I1, r1, q1⟩ => ?_) hs rfl))
  obtain ⟨a, xs, e, hq, q⟩ := q1
  subst e
  obtain ⟨u, rfl, rx⟩ := vals1 r1
  cases rx
  obtain ⟨its, rv, pl, hz⟩ := I1.list hq
  have hl := rv.length
  refine call_reversed_list pl.isList ?_
  have st : ({ s1 with heap := s1.heap.push (revObj a ((its.toArray.size : Int) - 1)) } : Shared).heap.IsRevIter s1.heap.objs.size a ((its.toArray.size : Int) - 1) := ⟨_, Heap.get?_push_size _ rfl, rfl, rfl⟩
  refine wpAny_pyIter_revIter st ?_
  refine ⟨s1.heap.objs.size, [s1.heap.objs.size], _, _, H1, rfl, I1.kept (t' := s1.toks) fun b o e => Heap.get?_push_of_some _ e, turn_rev a _ xs.length, ⟨Nat.zero_le _, ?_⟩, fun b hb => ?_, q⟩
  · rw [show (xs.length : Int) - 1 - ((0 : Nat) : Int) = (its.toArray.size : Int) - 1 by rw [List.size_toArray, hl]; omega]
    exact st
  · have e : b = s1.heap.objs.size := by simpa using hb
    subst e
    exact I1.fpOk (Nat.le_refl _) (I1.hok.fresh (Nat.le_refl _))
theorem ji_rev {a : Expr} {ta : TA} {p pos : Pos} (hg : Gl X "reversed") (hm : X.mg "reversed" = none) (ha : JA X [a] ta) (hs : starEach [a] X.env = [(false, eval a X.env)] := by rfl) : JI X tg (.Call (.Name "reversed" p) [a] [] pos) (iRev X.K ta) := ⟨pi_rev hg hm ha.h hs⟩
theorem for_rev {K : PySem.W.Frag} {a : Addr} {xs : List V} {n : Nat} {g : TG} {tb : TS} {D : Ends} {σ : St} {H : Hp} (Pv : Nat → St → Hp → Prop) (hn : xs.length = n) (h0 : Pv 0 σ H) (hl : ∀ i σ H, i ≤ n → Pv i σ H → SqL K H a xs)
    (hs : ∀ i x σ H, i < n → xs[n - 1 - i]? = some x → Pv i σ H → g x σ H fun σ2 H2 => tb { D with nx := Pv (i + 1), ct := Pv (i + 1), bk := D.nx } σ2 H2) (hd : ∀ σ H, Pv n σ H → D.nx σ H) :
    ∃ W : Nat → Nat → St → Hp → Prop, (∃ m, W 0 m σ H) ∧ ∀ i m σ H, W i m σ H →
      ((Itv K a n).stop i H ∧ D.nx σ H) ∨ ((Itv K a n).go i H ∧ ∃ N : St → Hp → Prop, (∀ σ' H', N σ' H' → ∃ m', m' < m ∧ W (i + 1) m' σ' H') ∧ ∀ x H', (Itv K a n).yld i H x H' → g x σ H' fun σ2 H2 => tb { D with nx := N, ct := N, bk := D.nx } σ2 H2) := by
  refine ⟨fun i m σ H => m = n - i ∧ i ≤ n ∧ Pv i σ H, ⟨n, by simp, Nat.zero_le _, h0⟩, ?_⟩
  rintro i m σ H ⟨rfl, hi, p⟩
  have q := hl i σ H hi p
  by_cases hlt : i < n
  · refine .inr ⟨⟨xs, q, hn, hlt⟩, Pv (i + 1), fun σ' H' p' => ⟨n - (i + 1), by omega, rfl, hlt, p'⟩, fun x H' y => ?_⟩
    obtain ⟨e, y⟩ := y
    subst e
    exact hs i x σ _ hlt (y xs q) p
  · have e : i = n := by omega
    subst e
    exact .inl ⟨Nat.le_refl _, hd σ H p⟩
/-! ### list + list, list * int: what is new -/
def rCatS : R2 := fun x y H Q => ∃ l b xs zs, x = .ref l ∧ y = .ref b ∧ H l = some (.lst xs) ∧ H b = some (.lst zs) ∧ xs.length + zs.length ≤ sizeLine ∧ NewL H Q (xs ++ zs)
theorem op_catS : OpR X (binaryOp .Add) rCatS := fun pins s σ H x y v u Q I rx ry h =>
  op_cat pins s σ H x y v u Q I rx ry (let ⟨l, b, xs, zs, e1, e2, h1, h2, hz, q⟩ := h; ⟨l, b, xs, zs, e1, e2, h1, h2, hz, q.upd⟩)
def rRepS : R2 := fun x y H Q => ∃ l k xs, x = .ref l ∧ y = .int k ∧ H l = some (.lst xs) ∧ -(2 ^ 63) ≤ k ∧ k < 2 ^ 63 ∧ xs.length * k.toNat ≤ sizeLine ∧ NewL H Q (List.replicate k.toNat xs).flatten
theorem op_repS : OpR X (binaryOp .Mult) rRepS := fun pins s σ H x y v u Q I rx ry h =>
  op_rep pins s σ H x y v u Q I rx ry (let ⟨l, k, xs, e1, e2, h1, h2, h3, hz, q⟩ := h; ⟨l, k, xs, e1, e2, h1, h2, h3, hz, q.upd⟩)
/-! ### the text's part named apart (for a comprehension's block) -/
theorem pe_fldK {e : Expr} {f : Str} {pos : Pos} {ta : TE} (K : PySem.W.Frag) (h : X.K = K) (he : PE X e ta) (hb : attributeBase e f X.env (eval e X.env) = eval e X.env) : PE X (.Attribute e f pos) (tFld K ta f) := by
  subst h
  exact pe_fld he hb
theorem je_fldK {e : Expr} {f : Str} {pos : Pos} {ta : TE} (K : PySem.W.Frag) (h : X.K = K) (he : JE X e ta) (hb : attributeBase e f X.env (eval e X.env) = eval e X.env) : JE X (.Attribute e f pos) (tFld K ta f) := ⟨pe_fldK K h he.h hb⟩
theorem lenK (K : PySem.W.Frag) (h : X.K = K) : CallR X (.builtin "len") (fun xs H Q => ∃ p ys, xs = [.ref p] ∧ (SqL K H p ys ∨ SqT K H p ys) ∧ Q (.int ys.length) H) := by
  subst h
  exact call_len_seq
theorem ixtK (K : PySem.W.Frag) (h : X.K = K) : IxR X (rIxT K) := by
  subst h
  exact ix_tup
theorem listK (K : PySem.W.Frag) (h : X.K = K) : CallR X (.type "list") (rListOfS K) := by
  subst h
  exact call_list_ofS
/-! ### a comprehension without a test, over a range -/
theorem gath_all (lo : Int) (f : Int → V) (n : Nat) : gath lo (fun _ => true) f n = (List.range n).map fun k => f (lo + (k : Nat)) := by
  unfold gath
  rw [List.filter_eq_self.mpr (fun _ _ => rfl)]
theorem mkS {F : Nat → V} {i : Nat} : (List.range i).map F ++ [F i] = (List.range (i + 1)).map F := by
  rw [List.range_succ, List.map_append]
  rfl
theorem comp_mk {lo : Int} {n : Nat} {js : List Nat} {te : TE} {σ : St} {H : Hp} {Q : VK} (F : Nat → V) (Pv : Nat → Hp → Prop) (hp : Pv 0 H) (hn : n ≤ sizeLine)
    (hs : ∀ i H, i < n → Pv i H → te (some (.int (lo + (i : Nat))) :: seen js σ) H fun u H3 => (List.range i).map F ++ [u] = (List.range (i + 1)).map F ∧ Pv (i + 1) H3)
    (hd : ∀ H, Pv n H → NewL H Q ((List.range n).map F)) :
    ∃ W : Nat → Nat → List V → Hp → Prop, (∃ m, W 0 m [] H) ∧ ∀ i m ys H, W i m ys H → ys.length ≤ sizeLine ∧ (((Itr lo n).stop i H ∧ NewL H Q ys) ∨
    ((Itr lo n).go i H ∧ ∃ N : List V → Hp → Prop, (∀ ys' H', N ys' H' → ∃ m', m' < m ∧ W (i + 1) m' ys' H') ∧ ∀ v H', (Itr lo n).yld i H v H' → tYes (some v :: seen js σ) H' fun b H2 =>
      if b = true then te (some v :: seen js σ) H2 fun u H3 => N (ys ++ [u]) H3 else N ys H2)) := by
  have e0 : ∀ i : Nat, gath lo (fun _ => true) (fun k => F (k - lo).toNat) i = (List.range i).map F := fun i => by
    rw [gath_all]
    refine List.map_congr_left fun k _ => ?_
    show F (lo + (k : Int) - lo).toNat = F k
    rw [show (lo + (k : Int) - lo).toNat = k by omega]
  refine comp_range (fun _ => true) (fun k => F (k - lo).toNat) Pv hp hn (fun i H hi p => ?_) (fun H p => ?_)
  · rw [e0 i, e0 (i + 1)]
    show (if true = true then te (some (V.int (lo + (i : Nat))) :: seen js σ) H fun u H3 => List.map F (List.range i) ++ [u] = List.map F (List.range (i + 1)) ∧ Pv (i + 1) H3 else List.map F (List.range i) = List.map F (List.range (i + 1)) ∧ Pv (i + 1) H)
    exact iteT (hs i H hi p)
  · rw [e0]
    exact hd H p
theorem range_ints (n : Nat) (F : Nat → Int) : (List.range n).map (fun i => V.int (F i)) = ((List.range n).map F).map V.int := by
  rw [List.map_map]
  rfl
end
end L2
namespace L2
open PySem PySem.Spec PyProof.Rows PySem.SeqAt
/-! ### lists of lists and of tuples compared: the same data -/
mutual
inductive DR (K : PySem.W.Frag) (H : Hp) : V → PyData → Prop
  | int (i : Int) : DR K H (.int i) (.int i)
  | lst {a : Addr} {xs : List V} {ds : List PyData} (h : SqL K H a xs) (r : DRs K H xs ds) : DR K H (.ref a) (.list ds)
  | tup {a : Addr} {xs : List V} {ds : List PyData} (h : SqT K H a xs) (r : DRs K H xs ds) : DR K H (.ref a) (.tuple ds)
inductive DRs (K : PySem.W.Frag) (H : Hp) : List V → List PyData → Prop
  | nil : DRs K H [] []
  | cons {x : V} {xs : List V} {d : PyData} {ds : List PyData} (h : DR K H x d) (r : DRs K H xs ds) : DRs K H (x :: xs) (d :: ds)
end
section
variable {X : Cx} {pins : List (Addr × Obj)} {s : Shared} {σ : St} {H : Hp}
mutual
theorem DR.reads (I : Inv X pins σ H s) : ∀ {x : V} {d : PyData}, DR X.K H x d → ∀ v, RelV x v → ∃ as, Reads s.heap v d as
  | _, _, .int i, v, r => by
    obtain ⟨t, rfl⟩ := r
    exact ⟨_, .int i t⟩
  | _, _, .lst h q, v, r => by
    cases r
    obtain ⟨its, rv, pl, _⟩ := I.list h
    obtain ⟨o, ho, hc, n, hd⟩ := pl.isList
    obtain ⟨as, ra⟩ := DRs.reads I q _ rv
    exact ⟨_, .list ho hc hd (by simpa using ra)⟩
  | _, _, .tup h q, v, r => by
    cases r
    obtain ⟨its, rv, pl, _⟩ := I.tuple h
    obtain ⟨o, ho, hc, n, hd⟩ := (show s.heap.IsTuple _ its.toArray from pl)
    obtain ⟨as, ra⟩ := DRs.reads I q _ rv
    exact ⟨_, .tuple ho hc hd (by simpa using ra)⟩
theorem DRs.reads (I : Inv X pins σ H s) : ∀ {xs : List V} {ds : List PyData}, DRs X.K H xs ds → ∀ vs, Vals xs vs → ∃ as, ReadsAll s.heap vs ds as
  | _, _, .nil, vs, r => by
    cases r
    exact ⟨_, .nil⟩
  | _, _, .cons h q, vs, r => by
    cases r with
    | cons r1 r2 =>
      obtain ⟨as, ra⟩ := DR.reads I h _ r1
      obtain ⟨bs, rb⟩ := DRs.reads I q _ r2
      exact ⟨_, .cons ra rb⟩
end
end
section
variable {X : Cx}
def rNeD (K : PySem.W.Frag) : R2 := fun x y H Q => ∃ d, DR K H x d ∧ DR K H y d ∧ shaped d = true ∧ Q (.bl false) H
theorem op_neD (hu : X.A.units + 64 < cLine) : OpR X (compareOp .NotEq) (rNeD X.K) := by
  intro pins s σ H x y v u Q I rx ry h
  obtain ⟨d, h1, h2, sh, q⟩ := h
  obtain ⟨as, ra⟩ := h1.reads I v rx
  obtain ⟨bs, rb⟩ := h2.reads I u ry
  refine ne_dataH ra rb sh sh hu ?_
  rw [eqv_refl d (canLay_of_shaped sh)]
  exact ⟨.bl false, H, I, rfl, q⟩
theorem op_mulB : OpR X (binaryOp .Mult) (rI (fun i j => PySem.IntMulOk i j) fun i j => .int (i * j)) := opI fun _ _ _ _ _ _ _ hc q => mul_int q hc
theorem mulB_ok {a b : Int} (a0 : 0 ≤ a) (a1 : a < 10 ^ 64) (b0 : 0 ≤ b) (b1 : b < 10 ^ 64) : PySem.IntMulOk a b := by
  have z : (10 : Int) ^ 64 < 2 ^ 250 := by decide
  have e : ((2 ^ 250 : Nat) : Int) = (2 : Int) ^ 250 := by decide
  exact PySem.IntMulOk.of_le (m := 250) (n := 250) (PySem.intBits_le_iff.mpr (by omega)) (PySem.intBits_le_iff.mpr (by omega)) (by decide)
theorem DRs.ints {K : PySem.W.Frag} {H : Hp} : ∀ ns : List Int, DRs K H (ns.map V.int) (ns.map PyData.int)
  | [] => .nil
  | n :: r => .cons (.int n) (DRs.ints r)
theorem DR.ints {K : PySem.W.Frag} {H : Hp} {a : Addr} {ns : List Int} (h : SqL K H a (ns.map V.int)) : DR K H (.ref a) (.list (ns.map PyData.int)) := .lst h (DRs.ints ns)
theorem shaped_two (ns ms : List Int) : shaped (.list [.list (ns.map PyData.int), .list (ms.map PyData.int)]) = true := by
  have h1 := PySem.W.depthAll_ints ns
  have h2 := PySem.W.depthAll_ints ms
  show (PyData.canLay0 (.list [.list (ns.map PyData.int), .list (ms.map PyData.int)]) && decide (PyData.depth (.list [.list (ns.map PyData.int), .list (ms.map PyData.int)]) ≤ 64)) = true
  rw [Bool.and_eq_true]
  refine ⟨?_, decide_eq_true ?_⟩
  · simp only [PyData.canLay0, PyData.canLayAll0, PySem.W.canLayAll0_ints, Bool.and_self]
  · simp only [PyData.depth, PyData.depthAll]
    omega
end
end L2
namespace L2
open PySem PySem.Spec PyProof.Rows
/-! ### list comprehensions whose clause unpacks -/
structure CompOk2 (X : Cx) (scope : Scope) (js : List Nat) (fr : List Str) : Prop where
  js : jsOk X.env.scope X.N scope js fr = true
  free : ∀ y ∈ scope.names, y.2 = .free → X.env.kindOf y.1 = some .cell ∨ X.env.kindOf y.1 = some .free
  cell : ∀ y ∈ scope.names, y.2 ≠ .cell
  kind : scope.kind = .function
  names : ∀ y ∈ scope.names, y.2 = .local → scope.names.lookup y.1 = some .local
def compOk2 (osc : Scope) (N : List Str) (scope : Scope) (js : List Nat) (fr : List Str) : Bool :=
  jsOk osc N scope js fr && decide (∀ y ∈ scope.names, y.2 = .free → osc.names.lookup y.1 = some .cell ∨ osc.names.lookup y.1 = some .free) && decide (∀ y ∈ scope.names, y.2 ≠ .cell) && decide (scope.kind = .function) &&
    decide (∀ y ∈ scope.names, y.2 = .local → scope.names.lookup y.1 = some .local)
theorem comp_ok2 {X : Cx} {scope : Scope} {js : List Nat} {fr : List Str} (osc : Scope) (N : List Str) (h : compOk2 osc N scope js fr = true) (e1 : X.env.scope = osc := by rfl) (e2 : X.N = N := by rfl) : CompOk2 X scope js fr := by
  subst e1; subst e2
  unfold compOk2 at h
  simp only [Bool.and_eq_true] at h
  obtain ⟨⟨⟨⟨a1, a2⟩, a3⟩, a4⟩, a5⟩ := h
  exact ⟨a1, of_decide_eq_true a2, of_decide_eq_true a3, of_decide_eq_true a4, of_decide_eq_true a5⟩
/-- a comprehension's loop whose items may be tuples that the iterator owns -/
theorem compLoop_own {P : Program} {w : World} {A : Around} {R : Result → Shared → Prop} {s₀ : Shared} {elt tg iter : Expr} {ifs : List Expr} {scope : Scope} {pos : Pos} {it acc : Value} {env : Env} (J : Nat → Shared → Prop)
    (turn : ∀ k s, J k s →
      wpAny (model P w) A (pyNext it) (fun r s1 => match r with
        | none => R (.ok .next) s1
        | some v =>
          wpAny (model P w) A (letOwnedTupleGo tg it v) (fun _ s2 =>
            wpAny (model P w) A (assign tg env v) (fun _ s3 =>
              wpAny (model P w) A (forIn ifs true fun c r => if r = true then do let ok ← isTrue c env (eval c env); pure (ForInStep.yield ok) else pure (ForInStep.yield r)) (fun ok s4 =>
                if ok = true then
                  wpAny (model P w) A (eval elt env) (fun x s5 =>
                    wpAny (model P w) A (call (.builtin "list.append") [acc, x]) (fun _ s6 => ∃ m, m < k ∧ J m s6)
                      (notedBy (model P w) A env fun e s' => R (.error e) s') s5)
                    (notedBy (model P w) A env fun e s' => R (.error e) s') s4
                else ∃ m, m < k ∧ J m s4)
              (notedBy (model P w) A env fun e s' => R (.error e) s') s3)
            (notedBy (model P w) A env fun e s' => R (.error e) s') s2)
          (notedBy (model P w) A env fun e s' => R (.error e) s') s1)
      (notedBy (model P w) A env fun e s' => R (.error e) s') s)
    (k : Nat) (h : J k s₀) : codeAny (model P w) A (.compLoop (.ListComp elt [⟨tg, iter, ifs, 0⟩] scope pos) 0 it acc env) R s₀ := by
  refine codeAny_loop rfl J (fun k s hJ => ?_) k h
  refine (show wpAny _ A ((compTurn (.ListComp elt [⟨tg, iter, ifs, 0⟩] scope pos) 0 it acc env).onRaise fun x => do
    noteFrame x env
    theTreesLotGoes x) _ _ s from wpAny_noted ?_)
  rw [compTurn_list]
  refine wpAny_bind (wpAny_standAt (wpAny_bind (thn (turn k s hJ) fun r s1 h1 => ?_)))
  cases r with
  | none => exact wpAny_pure h1
  | some v =>
    refine wpAny_bind (thn h1 fun _ s2 h2 => ?_)
    refine wpAny_bind (thn h2 fun _ s3 h3 => wpAny_bind (thn h3 fun ok s4 h4 => ?_))
    cases ok with
    | false => exact wpAny_pure ⟨rfl, h4⟩
    | true => exact wpAny_bind (wpAny_bind (thn h4 fun x s5 h5 => wpAny_bind (thn h5 fun _ s6 h6 => wpAny_pure (wpAny_pure ⟨rfl, h6⟩))))
theorem comp2_core {X : Cx} {xs : List Str} {tg : Expr} {g : TG} {pos : Pos} {iter elt : Expr} {ifs : List Expr} {scope : Scope} {cl : List (Str × Addr)} {tc : TT} {te : TE} {js : List Nat} {fr : List Str} {J : It} {fp : List Addr} {it : Addr} {tn : Nat → Heap → Prop}
    {pins : List (Addr × Obj)} {σ : St} {H2 : Hp} {s₂ : Shared} {E : Value → Shared → Prop} {RR : Value → Addr → Result → Shared → Prop} {Fin : List V → Hp → Prop} {W : Nat → Nat → List V → Hp → Prop} {m0 : Nat}
    (hc : X.calm = true) (ok : CompOk2 X scope js fr)
    (hg : ∀ C s H, PG (cxComp X scope cl C (xs ++ fr) s H fp) tg g) (ht : ∀ C s H, PTs (cxComp X scope cl C (xs ++ fr) s H fp) ifs tc) (he : ∀ C s H, PE (cxComp X scope cl C (xs ++ fr) s H fp) elt te)
    (c1 : ∀ y c, cl.lookup y = some c → X.env.cells.lookup y = some c) (c2 : ∀ y ∈ scope.names, y.2 = .free → (cl.lookup y.1).isSome = true)
    (I : Inv X pins σ H2 s₂) (T : Turn X.prog X.w X.K tg J fp it tn) (t0 : tn 0 s₂.heap) (f2 : ∀ b ∈ fp, FpOk X pins H2 b) (w0 : W 0 m0 [] H2)
    (step : ∀ i m ys H, W i m ys H → ys.length ≤ sizeLine ∧ ((J.stop i H ∧ Fin ys H) ∨ (J.go i H ∧ ∃ N : List V → Hp → Prop, (∀ ys' H', N ys' H' → ∃ m', m' < m ∧ W (i + 1) m' ys' H') ∧ ∀ v H' τ, J.yld i H v H' → τ.length = xs.length → g v (τ ++ seen js σ) H' fun σ6 H6 => ∃ τ', σ6 = τ' ++ seen js σ ∧ τ'.length = xs.length ∧ tc σ6 H6 fun b H2 =>
      if b = true then te σ6 H2 fun u H3 => N (ys ++ [u]) H3 else N ys H2)))
    (fin : ∀ (D C : Addr) (s' : Shared) (ys : List V) (H' : Hp), Fin ys H' → H' D = none → Inv X pins σ (upd H' D (.lst ys)) s' → (∃ m, s'.heap.Ns C m) → s₂.heap.objs.size ≤ C → upd H' D (.lst ys) C = none → RR (.ref D) C (.ok .next) s') :
    wpAny (model X.prog X.w) X.A (newList []) (fun acc s₃ => wpAny (model X.prog X.w) X.A (newFunctionEnv scope X.env.globals cl [] X.env.qual none .none (some X.env)) (fun cenv s₄ =>
      codeAny (model X.prog X.w) X.A (.compStart (.ListComp elt [⟨tg, iter, ifs, 0⟩] scope pos) 0 (.ref it) acc { cenv with scope := relabel scope X.env }) (RR acc cenv.locals) s₄) E s₃) E s₂ := by
  refine wpAny_newObj_type (wpAny_newFunctionEnv ok.cell (by intro y hy; simp at hy) (fun h₁ hns₁ hsb₁ => ?_) ok.kind)
  dsimp only at hns₁ hsb₁ ⊢
  generalize hG : s₂.heap.push { cls := .type "list", dict := none, data := .seq ([] : List Value).toArray } = G at hns₁ hsb₁ ⊢
  have hC : G.objs.size = s₂.heap.objs.size + 1 := by rw [← hG, Heap.size_push]
  generalize hD : s₂.heap.objs.size = D at hC ⊢
  rw [hC] at hns₁ hsb₁ ⊢
  have old : ∀ b o, s₂.heap.get? b = some o → h₁.get? b = some o := fun b o e => by
    have hb : b < D := hD ▸ Heap.lt_size e
    exact hsb₁.extBut b o (Nat.ne_of_lt (Nat.lt_succ_of_lt hb)) (Heap.get?_push_of_some _ (hG ▸ Heap.get?_push_of_some _ e))
  have oD : h₁.get? D = some { cls := .type "list", data := .seq #[] 0 } := by
    refine hsb₁.extBut D _ (Nat.ne_of_lt (Nat.lt_succ_self D)) (Heap.get?_push_of_some _ ?_)
    rw [← hG, ← hD]
    exact Heap.get?_push_size _ rfl
  have ltfp : ∀ b ∈ fp, b < D := fun b hb => by
    obtain ⟨o, e, _⟩ := T.obj 0 _ t0 b hb
    rw [← hD]; exact Heap.lt_size e
  have ltc : ∀ y c, cl.lookup y = some c → c < D := fun y c e => by
    obtain ⟨v, q⟩ := I.cell y c (c1 y c e)
    rw [← hD]; exact q.lt
  -- the block's context
  have X'ok : (cxComp X scope cl (D + 1) (xs ++ fr) s₂ H2 fp).Ok := by
    refine ⟨I.ok.mod, ok.kind, I.ok.glob, I.ok.blt, ?_, fun y z c a b => I.ok.inj y z c (c1 y c a) (c1 z c b), fun y hy => ?_, fun _ _ z => (nomatch z), I.ok.hd, I.ok.frames, .inl rfl, fun b hb => ⟨?_, fun y c e z => ?_⟩, I.bs, Nat.le_trans I.ok.bsz I.sz, fun b o e hb => ?_, fun b hb z => ?_, I.stack, I.stkFree⟩
    · show s₂.heap.objs.size ≤ D + 1
      rw [hD]; exact Nat.le_succ D
    · have hy : (scope.names.map (relab X.env)).lookup y = some .cell ∨ (scope.names.map (relab X.env)).lookup y = some .free := hy
      have hf : (y, NameKind.free) ∈ scope.names := by
        rw [relab_lookup] at hy
        cases q : scope.names.lookup y with
        | none => rw [q] at hy; rcases hy with z | z <;> cases z
        | some k =>
          rw [q] at hy
          have q' := PySem.mem_of_lookup q
          rcases relab_kind X.env y k with r | ⟨r, _⟩
          · rcases hy with z | z
            · have z : (relab X.env (y, k)).2 = .cell := Option.some.inj z
              rw [r] at z; subst z
              exact absurd rfl (ok.cell _ q')
            · have z : (relab X.env (y, k)).2 = .free := Option.some.inj z
              rw [r] at z; subst z
              exact q'
          · subst r; exact q'
      exact Option.isSome_iff_exists.mp (c2 _ hf rfl)
    · exact Nat.ne_of_lt (Nat.lt_succ_of_lt (ltfp b hb))
    · exact (f2 b hb).2.2.2.2.1 y c (c1 y c e) z
    · have hb : b ∈ fp := hb
      rcases (f2 b hb).2.2.2.1 with z | z
      · exact I.ok.noex b o e z
      · exact absurd (Nat.lt_of_lt_of_le (Heap.lt_size e) (Nat.le_trans I.ok.bsz z)) (Nat.lt_irrefl _)
    · have z : b ∈ frs X.stack := z
      rcases List.mem_cons.mp (I.stkSub b z) with q | q
      · exact (f2 b hb).2.1 q
      · exact (f2 b hb).2.2.1 q
  have pinD : ∀ {H' : Hp} {ob : Obj} {h : Heap}, h.get? D = some ob → H' D = none → (∀ v, ob.data ≠ .cell v) → ∀ p ∈ [(D, ob)], h.get? p.1 = some p.2 ∧ H' p.1 = none ∧ p.1 ≠ (cxComp X scope cl (D + 1) (xs ++ fr) s₂ H2 fp).env.locals ∧ p.1 ∉ (cxComp X scope cl (D + 1) (xs ++ fr) s₂ H2 fp).fs ∧ ∀ v, p.2.data ≠ .cell v := by
    intro H' ob h a1 a2 a3 p hp
    have e : p = (D, ob) := by simpa using hp
    subst e
    refine ⟨a1, a2, Nat.ne_of_lt (Nat.lt_succ_self D), fun z => ?_, a3⟩
    have z : D ∈ frs X.stack := z
    rcases List.mem_cons.mp (I.stkSub D z) with q | q
    · have lt := I.lt
      rw [← q, hD] at lt
      exact absurd lt (Nat.lt_irrefl _)
    · exact I.nofs (Nat.le_of_eq hD) q
  have I1 : ∀ tk, Inv (cxComp X scope cl (D + 1) (xs ++ fr) s₂ H2 fp) [(D, { cls := .type "list", data := .seq #[] 0 })] ((xs.map fun _ => none) ++ seen js σ) H2 { s₂ with heap := h₁, toks := tk } := by
    intro tk
    refine ⟨X'ok, rfl, I.bare, Un.kept old, ⟨_, hns₁, fun i y v e1 e2 e3 => ?_⟩, fun y c e => ?_, I.hok.fresh (by show s₂.heap.objs.size ≤ D + 1; rw [hD]; exact Nat.le_succ D), fun y c e => I.freeC y c (c1 y c e), fun p hp => ?_, I.hok.kept old, ?_⟩
    · rcases Nat.lt_or_ge i xs.length with hlt | hge
      · rw [List.getElem?_append_left (by simpa using hlt), List.getElem?_map, List.getElem?_eq_getElem hlt] at e2
        cases e2
      · obtain ⟨k, rfl⟩ : ∃ k, i = xs.length + k := ⟨i - xs.length, by omega⟩
        have e1 : fr[k]? = some y := by
          have e1 : (xs ++ fr)[xs.length + k]? = some y := e1
          rw [List.getElem?_append_right (by omega)] at e1
          rw [← e1]
          congr 1
          omega
        have e2 : (seen js σ)[k]? = some (some v) := by
          rw [List.getElem?_append_right (by simp)] at e2
          rw [← e2]
          congr 1
          simp
        obtain ⟨j, j1, j2, j3, j4⟩ := jsOk_at ok.js k y e1
        have e4 : σ[j]? = some (some v) := by
          unfold seen at e2
          rw [List.getElem?_map, j1] at e2
          have e2 : (σ[j]?).join = some v := Option.some.inj e2
          cases q : σ[j]? with
          | none => rw [q] at e2; cases e2
          | some z => rw [q] at e2; rw [show z = some v from e2]
        obtain ⟨m, hn, hl⟩ := I.loc
        have vis : Vis X.env.scope y := .inr j4
        obtain ⟨u, r, l⟩ := hl j y v j2 e4 vis
        refine ⟨u, r, .inr ⟨?_, ?_⟩⟩
        · show (scope.names.map (relab X.env)).lookup y = some .cell ∨ (scope.names.map (relab X.env)).lookup y = some .free
          rw [relab_lookup, j3]
          rcases relab_kind X.env y .free with q | ⟨_, q⟩
          · right; exact congrArg some q
          · left; exact congrArg some q
        · rcases l with ⟨l, _⟩ | ⟨_, c, e, z⟩
          · have l : X.env.scope.names.lookup y = some .local := l
            rcases j4 with q | q
            · rw [q] at l; cases l
            · rw [q] at l; cases l
          · obtain ⟨c', e'⟩ := Option.isSome_iff_exists.mp (c2 _ (PySem.mem_of_lookup j3) rfl)
            have : c' = c := Option.some.inj ((c1 y c' e').symm.trans e)
            subst this
            obtain ⟨o, z1, z2⟩ := z
            exact ⟨c', e', o, old _ _ z1, z2⟩
    · obtain ⟨v, o, z1, z2⟩ := I.cell y c (c1 y c e)
      exact ⟨v, o, old _ _ z1, z2⟩
    · exact pinD oD (I.hok.fresh (Nat.le_of_eq hD)) (fun v z => nomatch z) p hp
    · show _ = (xs ++ fr).length
      rw [List.length_append, List.length_append, ← jsOk_len ok.js]
      unfold seen
      rw [List.length_map, List.length_map]
  have fpok : ∀ {H' : Hp} {ob : Obj}, (∀ b ∈ fp, H' b = none) → ∀ b ∈ fp, FpOk (cxComp X scope cl (D + 1) (xs ++ fr) s₂ H2 fp) [(D, ob)] H' b := fun {H' ob} hn b hb =>
    ⟨hn b hb, (X'ok.exf b hb).1, X'ok.exfs b hb, .inl hb, (X'ok.exf b hb).2, fun p hp => by
      have e : p = (D, ob) := by simpa [cxComp] using hp
      subst e
      exact Nat.ne_of_gt (ltfp b hb)⟩
  have loop : ∀ tk, codeAny (model X.prog X.w) X.A (.compLoop (.ListComp elt [⟨tg, iter, ifs, 0⟩] scope pos) 0 (.ref it) (.ref D) (compEnvC scope cl (D + 1) X.env)) (RR (.ref D) (D + 1)) { s₂ with heap := h₁, toks := tk } := by
    intro tk
    refine compLoop_own (fun n s' => ∃ i ys its k τ H', τ.length = xs.length ∧ Inv (cxComp X scope cl (D + 1) (xs ++ fr) s₂ H2 fp) [(D, { cls := .type "list", data := .seq (List.toArray its) k })] (τ ++ seen js σ) H' s' ∧ tn i s'.heap ∧ (∀ b ∈ fp, H' b = none) ∧ Vals ys its ∧ W i n ys H') ?_ m0
      ⟨0, [], [], 0, xs.map (fun _ => none), H2, List.length_map _, I1 tk, T.keep _ _ _ t0 (fun b _ o e => old b o e), fun b hb => (f2 b hb).1, .nil, w0⟩
    rintro n s' ⟨i, ys, its, k, τ, H', hτ, I', st, fr', vv, w⟩
    obtain ⟨hz, r⟩ := step i n ys H' w
    rcases r with ⟨stop, q⟩ | ⟨go, N, hN, q⟩
    · refine thn (T.done (cxComp X scope cl (D + 1) (xs ++ fr) s₂ H2 fp) rfl rfl rfl hc i _ s' _ H' _ I' (fpok fr') st stop) fun r s1 ⟨hr, I3⟩ => ?_
      subst hr
      obtain ⟨p1, p2, p3, p4, p5⟩ := I3.pin (D, _) (List.mem_append_right _ (List.mem_singleton.mpr rfl))
      obtain ⟨m, hn, _⟩ := I3.loc
      have oldne : ∀ b o, s₂.heap.get? b = some o → b ≠ D := fun b o e => by
        exact Nat.ne_of_lt (hD ▸ Heap.lt_size e)
      have neD : ∀ b o, H' b = some o → b ≠ D := fun b o e z => by rw [z, p2] at e; cases e
      have u : Un (frs X.stack) fp H2 H' s₂.heap s1.heap := I3.base
      have hok' : HOk X.prog X.w (upd H' D (.lst ys)) s1.heap := by
        intro b ob e
        by_cases hb : b = D
        · subst hb
          rw [upd_same] at e
          cases e
          exact ⟨hz, its, k, vv, p1⟩
        · rw [upd_ne hb] at e
          exact (I3.hok b ob e).stay (fun _ _ _ q => q) (fun c q => by rw [upd_ne (neD _ _ q)]; exact q) fun c xs q => by rw [upd_ne (neD _ _ q)]; exact q
      have u' : Un (frs X.stack) fp H2 (upd H' D (.lst ys)) s₂.heap s1.heap :=
        ⟨u.keep, u.slot, fun b ob e nn hx => by rw [upd_ne (oldne b ob e)]; exact u.free b ob e nn hx, u.there, fun b xs e => by rw [upd_ne (neD _ _ (u.tups b xs e))]; exact u.tups b xs e,
          fun b ob xs e => by rw [upd_ne (neD _ _ (u.frzs b ob xs e))]; exact u.frzs b ob xs e, fun b ps e => by
            obtain ⟨more, z⟩ := u.tbls b ps e
            exact ⟨more, by rw [upd_ne (neD _ _ z)]; exact z⟩⟩
      refine fin D (D + 1) s1 ys H' q p2 (I.call' I3.os u' hok' I3.bare fun b hb => ?_) ⟨m, hn⟩ (by rw [hD]; exact Nat.le_succ D) ?_
      · obtain ⟨_, g1, _, g3, g4, g5⟩ := f2 b hb
        exact ⟨g3, g1, g4, g5⟩
      · rw [upd_ne (Nat.ne_of_gt (Nat.lt_succ_self D))]
        exact I3.free
    · refine thn (T.item (cxComp X scope cl (D + 1) (xs ++ fr) s₂ H2 fp) rfl rfl rfl hc i _ s' _ H' _ I' (fpok fr') st go) fun r s1 ⟨u, hr, h4⟩ => ?_
      subst hr
      refine thn h4 fun _ s5 ⟨v, H5, I5, r5, y5, st5, fr5⟩ => ?_
      have I5' := I5.pinned (fpok fr5) (T.obj _ _ st5)
      refine thnF (hg (D + 1) s₂ H2 _ s5 _ H5 v u _ I5' r5 (q v H5 τ y5 hτ)) fun _ s6 ⟨σ6, H6, I6, τ', e6, hτ', q6⟩ => ?_
      subst e6
      refine thnF (ht (D + 1) s₂ H2 _ s6 _ H6 _ I6 q6) fun b s7 ⟨H7, I7, q7⟩ => ?_
      have keepT : ∀ {H8 : Hp} {σ8 : St} {s8 : Shared}, Inv (cxComp X scope cl (D + 1) (xs ++ fr) s₂ H2 fp) (([(D, { cls := .type "list", data := .seq (List.toArray its) k })] : List (Addr × Obj)) ++ pinsAt fp s5.heap) σ8 H8 s8 → tn (i + 1) s8.heap ∧ ∀ b ∈ fp, H8 b = none := fun {H8 σ8 s8} I8 =>
        ⟨T.keep _ _ _ st5 fun b hb o e => (I8.pin (b, o) (List.mem_append_right _ (List.mem_append_right _ (mem_pinsAt hb e)))).1, fun b hb => by
          obtain ⟨o, e, _⟩ := T.obj _ _ st5 b hb
          exact (I8.pin (b, o) (List.mem_append_right _ (List.mem_append_right _ (mem_pinsAt hb e)))).2.1⟩
      cases b with
      | false =>
        obtain ⟨m', hm, w'⟩ := hN _ _ q7
        exact ⟨m', hm, i + 1, ys, its, k, τ', H7, hτ', I7.unpinned, (keepT I7).1, (keepT I7).2, vv, w'⟩
      | true =>
        refine thnF (he (D + 1) s₂ H2 _ s7 _ H7 _ I7 q7) fun u8 s8 ⟨v8, H8, I8, r8, q8⟩ => ?_
        obtain ⟨m', hm, w'⟩ := hN _ _ q8
        obtain ⟨p1, p2, p3, p4, p5⟩ := I8.pin (D, _) (List.mem_append_right _ (List.mem_append_left _ (List.mem_singleton.mpr rfl)))
        have lz : its.toArray.size ≤ sizeLine := by
          have := vv.length
          simp only [List.size_toArray]
          omega
        refine wpAny_list_append_plain (hsz := lz) ⟨k, p1⟩ fun h₉ hl₉ hs₉ => ?_
        obtain ⟨k9, e9⟩ := hl₉
        have e9' : h₉.get? D = some { cls := .type "list", data := .seq (its ++ [u8]).toArray k9 } := by
          rw [e9]
          simp
        obtain ⟨t8, f8⟩ := keepT I8
        have I8n : Inv (cxComp X scope cl (D + 1) (xs ++ fr) s₂ H2 fp) [] (τ' ++ seen js σ) H8 s8 := I8.pins_of fun p hp => nomatch hp
        have I9 : Inv (cxComp X scope cl (D + 1) (xs ++ fr) s₂ H2 fp) [] (τ' ++ seen js σ) H8 { s8 with heap := h₉ } :=
          I8n.turned (it := D) (t' := s8.toks) (fun b ob hb e => (hs₉.2 b hb).trans e) p2 p3 (.inr (Nat.le_of_eq hD)) (fun y c e => Nat.ne_of_lt (ltc y c e)) fun p hp => nomatch hp
        refine ⟨m', hm, i + 1, ys ++ [v8], its ++ [u8], k9, τ', H8, hτ', I9.pins_of (pinD e9' p2 fun v z => nomatch z), T.keep _ _ _ t8 fun b hb ob e => (hs₉.2 b (Nat.ne_of_lt (ltfp b hb))).trans e, f8, vv.append (.cons r8 .nil), w'⟩
  have I1' := I1 s₂.toks
  exact codeAny_compStart_list (loop _) (T.self _ 0 _ _ _ (T.keep _ _ _ t0 (fun b _ o e => old b o e)) (loop _))


def tComp2 (wi : TI) (n : Nat) (js : List Nat) (g : TG) (tc : TT) (te : TE) : TE := fun σ H Q => wi σ H fun J H1 =>
  ∃ W : Nat → Nat → List V → Hp → Prop, (∃ m, W 0 m [] H1) ∧ ∀ i m ys H, W i m ys H → ys.length ≤ sizeLine ∧ ((J.stop i H ∧ NewL H Q ys) ∨
    (J.go i H ∧ ∃ N : List V → Hp → Prop, (∀ ys' H', N ys' H' → ∃ m', m' < m ∧ W (i + 1) m' ys' H') ∧ ∀ v H' τ, J.yld i H v H' → τ.length = n → g v (τ ++ seen js σ) H' fun σ6 H6 => ∃ τ', σ6 = τ' ++ seen js σ ∧ τ'.length = n ∧ tc σ6 H6 fun b H2 =>
      if b = true then te σ6 H2 fun u H3 => N (ys ++ [u]) H3 else N ys H2))
theorem pe_comp2 {X : Cx} {xs : List Str} {tg iter elt : Expr} {g : TG} {pos : Pos} {ifs : List Expr} {scope : Scope} {wi : TI} {tc : TT} {te : TE} {js : List Nat} {fr : List Str} (hc : X.calm = true) (ok : CompOk2 X scope js fr) (hi : PI X tg iter wi) (hg : ∀ cl C s H fp, PG (cxComp X scope cl C (xs ++ fr) s H fp) tg g)
    (ht : ∀ cl C s H fp, PTs (cxComp X scope cl C (xs ++ fr) s H fp) ifs tc) (he : ∀ cl C s H fp, PE (cxComp X scope cl C (xs ++ fr) s H fp) elt te)
    (hs : ∀ z, foldedSetIterable iter X.env z = pure z := by intro _; rfl) : PE X (.ListComp elt [⟨tg, iter, ifs, 0⟩] scope pos) (tComp2 wi xs.length js g tc te) := by
  intro pins s σ H Q I h
  obtain ⟨cl, hcl, c1, c2⟩ := closure_ex (scope := scope) (env := X.env) (fun y hy hf => I.ok.has y.1 (ok.free y hy hf))
  rw [eval_ListComp]
  refine wpAny_comprehension_free (use := none) rfl hs hcl ok.kind ok.names (thn (hi pins s σ H _ I h) fun xv s₁ h₁ => thn h₁ fun itv s₂ h₂ => ?_)
  obtain ⟨it, fp, tn, J, H2, rfl, I2, T, st2, f2, W, ⟨m0, w0⟩, step⟩ := h₂
  refine comp2_core (Fin := fun ys H' => NewL H' Q ys) (RR := fun acc C => compPost (model X.prog X.w) X.A X.xe none (EP X pins σ Q) acc C) hc ok (fun C s H => hg cl C s H fp) (fun C s H => ht cl C s H fp) (fun C s H => he cl C s H fp) c1 c2 I2 T st2 f2 w0 step ?_
  intro D C s' ys H' q hD IV hn hC hCn
  obtain ⟨m, hn⟩ := hn
  refine ⟨m, hn, fun h' hs' => ⟨.ref D, _, ?_, rfl, q.upd D hD⟩⟩
  exact IV.turned (it := C) (t' := s'.toks) (fun b o hb e => (hs'.2 b hb).trans e) hCn (Nat.ne_of_gt (Nat.lt_of_lt_of_le I2.lt hC)) (.inr (Nat.le_trans I2.sz hC)) (fun y c e => by
    obtain ⟨v, z⟩ := I2.cell y c e
    exact Nat.ne_of_lt (Nat.lt_of_lt_of_le z.lt hC)) fun p hp => Nat.ne_of_lt (Nat.lt_of_lt_of_le (Heap.lt_size (I2.pin p hp).1) hC)
theorem je_comp2 {X : Cx} {xs : List Str} {tg iter elt : Expr} {g : TG} {pos : Pos} {ifs : List Expr} {scope : Scope} {wi : TI} {tc : TT} {te : TE} {js : List Nat} {fr : List Str} (hc : X.calm = true) (ok : CompOk2 X scope js fr) (hi : JI X tg iter wi) (hg : ∀ cl C s H fp, JG (cxComp X scope cl C (xs ++ fr) s H fp) tg g)
    (ht : ∀ cl C s H fp, JTs (cxComp X scope cl C (xs ++ fr) s H fp) ifs tc) (he : ∀ cl C s H fp, JE (cxComp X scope cl C (xs ++ fr) s H fp) elt te)
    (hs : ∀ z, foldedSetIterable iter X.env z = pure z := by intro _; rfl) : JE X (.ListComp elt [⟨tg, iter, ifs, 0⟩] scope pos) (tComp2 wi xs.length js g tc te) :=
  ⟨pe_comp2 hc ok hi.h (fun cl C s H fp => (hg cl C s H fp).h) (fun cl C s H fp => (ht cl C s H fp).h) (fun cl C s H fp => (he cl C s H fp).h) hs⟩
end L2
namespace L2
open PySem PySem.Spec PyProof.Rows
section
variable {X : Cx} {pins : List (Addr × Obj)} {σ : St} {H : Hp} {s : Shared} {h' : Heap}
/-- several own objects of an iterator have turned -/
theorem Inv.turnedL {t' : Nat} {ch : List Addr} (I : Inv X pins σ H s) (k : ∀ b o, b ∉ ch → s.heap.get? b = some o → h'.get? b = some o) (hf : ∀ b ∈ ch, FpOk X pins H b) : Inv X pins σ H { s with heap := h', toks := t' } := by
  have nit : ∀ b u, H b = some u → b ∉ ch := fun b u e z => by
    have := (hf b z).1
    rw [this] at e
    cases e
  refine I.step (g' := s.gens) (d' := s.drawn) (ch := ch) (fun b hb => ?_) (fun b o _ _ hc e _ => k b o hc e) (fun b o _ _ hc e _ => ⟨o.slots, k b o hc e⟩) (fun _ _ _ _ n => n)
    (fun b o hc e => ⟨o, k b o hc e⟩) (fun _ _ e => e) (fun _ _ _ e => e) (fun b ps e => ⟨#[], by rw [e]; simp⟩) (fun m hm => ?_) (fun b u e => ?_) I.bare
  · obtain ⟨_, f1, _, f3, f4, f5⟩ := hf b hb
    exact ⟨f3, f1, f4, f5⟩
  · obtain ⟨o, es, ep, ho, r⟩ := hm
    exact ⟨o, es, ep, k _ o (fun z => (hf _ z).2.1 rfl) ho, r⟩
  · refine (I.hok b u e).stay (fun c v hc q => k c v ?_ q) (fun _ q => q) fun _ _ q => q
    rcases hc with z | z
    · rw [z]; exact nit b u e
    · exact nit c _ z
end
section
variable {X : Cx}
/-! ### for x, y in zip(a list, a list) -/
def Itz (K : PySem.W.Frag) (a b : Addr) : It :=
  ⟨fun i H => ∃ xs ys x y, SqL K H a xs ∧ SqL K H b ys ∧ xs[i]? = some x ∧ ys[i]? = some y,
   fun i H v H' => ∃ T x y, v = .ref T ∧ H T = none ∧ (∀ xs, SqL K H a xs → xs[i]? = some x) ∧ (∀ ys, SqL K H b ys → ys[i]? = some y) ∧ H' T = some (.tup [x, y]) ∧ Same H H',
   fun i H => ∃ xs ys, SqL K H a xs ∧ SqL K H b ys ∧ (xs.length ≤ i ∨ ys.length ≤ i)⟩
def ZipAt (z TI TO i1 i2 a b : Addr) (i : Nat) (h : Heap) : Prop :=
  IsZip h z TI TO .none ∧ IsPair h TI (.ref i1) (.ref i2) ∧ (∃ p q, IsPair h TO p q) ∧ h.IsListIter i1 a i ∧ h.IsListIter i2 b i
theorem turn_zip {P : Program} {w : World} {K : PySem.W.Frag} {es : List Expr} {x1 : Nat} {tp : Pos} {z TI TO i1 i2 a b : Addr} (D : ZipApart z TI TO i1 i2 a b) : Turn P w K (.Tuple es x1 tp) (Itz K a b) [z, TI, TO, i1, i2] z (ZipAt z TI TO i1 i2 a b) where
  mem := by simp
  obj := fun i h st c hc => by
    obtain ⟨hz, hI, ⟨p, q, hO⟩, ⟨o1, e1, _, d1⟩, ⟨o2, e2, _, d2⟩⟩ := st
    simp only [List.mem_cons, List.not_mem_nil, or_false] at hc
    rcases hc with rfl | rfl | rfl | rfl | rfl
    · exact ⟨_, hz, fun v y => nomatch y⟩
    · exact ⟨_, hI, fun v y => nomatch y⟩
    · exact ⟨_, hO, fun v y => nomatch y⟩
    · exact ⟨o1, e1, fun v y => by rw [d1] at y; cases y⟩
    · exact ⟨o2, e2, fun v y => by rw [d2] at y; cases y⟩
  keep := fun i h h' st k => by
    obtain ⟨hz, hI, ⟨p, q, hO⟩, s1, s2⟩ := st
    exact ⟨k z (by simp) _ hz, k TI (by simp) _ hI, ⟨p, q, k TO (by simp) _ hO⟩, s1.at fun o e => k i1 (by simp) o e, s2.at fun o e => k i2 (by simp) o e⟩
  item := by
    intro X hP hw hK hc i pins s σ H E I hf st hg
    subst hP hw hK
    obtain ⟨xs, ys, x, y, hqa, hqb, hx, hy⟩ := hg
    obtain ⟨its, rv, pl, hz⟩ := I.list hqa
    obtain ⟨jts, rw', pm, hz'⟩ := I.list hqb
    obtain ⟨u, hu, ru⟩ := rv.get hx
    obtain ⟨v, hv, rv'⟩ := rw'.get hy
    obtain ⟨zz, hI, ⟨p, q, hO⟩, s1, s2⟩ := st
    refine wpAny_pyNext_zip_item D zz hI hO s1 s2 pl.isList pm.isList (x := u) (y := v) (by simpa using hu) (by simpa using hv) fun h1 b1 b2 b3 b4 b5 b6 b7 => ⟨_, rfl, ?_⟩
    refine wpAny_letOwnedTupleGo_zip (s := { s with heap := h1 }) b1 fun h2 c1 c2 => ?_
    have hT : H s.heap.objs.size = none := I.hok.fresh (Nat.le_refl _)
    have gt : ∀ c o, s.heap.get? c = some o → c ≠ s.heap.objs.size := fun c o e => Nat.ne_of_lt (Heap.lt_size e)
    have nz : s.heap.objs.size ≠ z := Ne.symm (gt _ _ zz)
    have I1 : Inv X pins σ (upd H s.heap.objs.size (.tup [x, y])) { s with heap := s.heap.push { cls := .type "tuple", data := .seq #[u, v] }, toks := s.toks } :=
      I.laid (fun c o e => Heap.get?_push_of_some _ e) (Nat.le_refl _) ⟨(by show 2 ≤ sizeLine; decide), [u, v], .cons ru (.cons rv' .nil), ⟨_, Heap.get?_push_size _ rfl, rfl, _, rfl⟩⟩
    have fpn : ∀ c ∈ [z, TI, TO, i1, i2], c ≠ s.heap.objs.size := by
      intro c hc
      simp only [List.mem_cons, List.not_mem_nil, or_false] at hc
      obtain ⟨o1, e1, _⟩ := s1
      obtain ⟨o2, e2, _⟩ := s2
      rcases hc with rfl | rfl | rfl | rfl | rfl
      · exact gt _ _ zz
      · exact gt _ _ hI
      · exact gt _ _ hO
      · exact gt _ _ e1
      · exact gt _ _ e2
    have hf1 : ∀ c ∈ [z, TI, TO, i1, i2], FpOk X pins (upd H s.heap.objs.size (.tup [x, y])) c := fun c hc => ⟨by rw [upd_ne (fpn c hc)]; exact (hf c hc).1, (hf c hc).2⟩
    have k2 : ∀ c o, c ∉ [z, TI, TO, i1, i2] → (s.heap.push { cls := .type "tuple", data := .seq #[u, v] }).get? c = some o → h2.get? c = some o := fun c o hc e => by
      simp only [List.mem_cons, List.not_mem_nil, or_false, not_or] at hc
      obtain ⟨n1, n2, n3, n4, n5⟩ := hc
      refine c2.extBut c o n1 ?_
      rcases Heap.get?_push_cases e with ⟨rfl, rfl⟩ | e
      · exact b5
      · exact b7 c o n1 n3 n4 n5 e
    have I2 := I1.turnedL (h' := h2) (t' := s.toks) k2 hf1
    have hTI2 : IsPair h2 TI (.ref i1) (.ref i2) := c2.extBut _ _ D.TIz (b7 _ _ D.TIz D.TITO D.TIi1 D.TIi2 hI)
    refine ⟨.ref s.heap.objs.size, _, I2, rfl, ⟨s.heap.objs.size, x, y, rfl, hT, fun xs' h => by rw [I.list_inj h hqa]; exact hx, fun ys' h => by rw [I.list_inj h hqb]; exact hy, upd_same, same_new hT _⟩, ⟨c1, hTI2, ⟨_, _, c2.extBut _ _ D.TOz b2⟩, b3.at fun o e => c2.extBut _ _ D.i1z e, b4.at fun o e => c2.extBut _ _ D.i2z e⟩, fun c hc => (hf1 c hc).1⟩
  done := by
    intro X hP hw hK hc i pins s σ H E I hf st hg
    subst hP hw hK
    obtain ⟨xs, ys, hqa, hqb, hend⟩ := hg
    obtain ⟨its, rv, pl, hz⟩ := I.list hqa
    obtain ⟨jts, rw', pm, hz'⟩ := I.list hqb
    have l1 := rv.length
    have l2 := rw'.length
    obtain ⟨zz, hI, ⟨p, q, hO⟩, s1, s2⟩ := st
    refine wpAny_pyNext_zip_end (I.ok.hd hc) D zz hI hO s1 s2 pl.isList pm.isList ?_ fun h1 k1 => ⟨rfl, I.turnedL (t' := s.toks) (fun c o hc e => ?_) hf⟩
    · rcases hend with y | y
      · left; simp; omega
      · right; simp; omega
    · simp only [List.mem_cons, List.not_mem_nil, or_false, not_or] at hc
      exact k1 c o hc.1 hc.2.2.1 hc.2.2.2.1 hc.2.2.2.2 e
  self := fun _ _ _ _ _ st h => wpAny_pyIter_zip st.1 h
def iZip (K : PySem.W.Frag) (ta : TA) : TI := fun σ H R => ta σ H fun vs H1 => ∃ a b xs ys, vs = [.ref a, .ref b] ∧ SqL K H1 a xs ∧ SqL K H1 b ys ∧ R (Itz K a b) H1
theorem pi_zip {e1 e2 : Expr} {ta : TA} {p pos : Pos} {es : List Expr} {x1 : Nat} {tp : Pos} (hg : Gl X "zip") (hm : X.mg "zip" = none) (ha : PA X [e1, e2] ta) (hs : starEach [e1, e2] X.env = [(false, eval e1 X.env), (false, eval e2 X.env)] := by rfl) (hs2 : starEach [e2] X.env = [(false, eval e2 X.env)] := by rfl) :
    PI X (.Tuple es x1 tp) (.Call (.Name "zip" p) [e1, e2] [] pos) (iZip X.K ta) := by
  intro pins s σ H R I h
  refine Call_ (ld_blt I hg hm (u := .type "zip") (by rfl) (PyProof.Rows.callWith_type1 (thn (ha pos pins s σ H _ I h) fun us s1 ⟨vs, H1, I1, r1, q1⟩ => ?_) (by rw [hs, hs2]) (by rw [hs2]; rfl)))
  obtain ⟨a, b, xs, ys, e, hqa, hqb, q⟩ := q1
  subst e
  obtain ⟨u, v, rfl, ru, rv⟩ := vals2 r1
  cases ru
  cases rv
  obtain ⟨its, rv, pl, hz⟩ := I1.list hqa
  obtain ⟨jts, rw', pm, hz'⟩ := I1.list hqb
  have a1 : a < s1.heap.objs.size := by obtain ⟨_, e, _⟩ := pl.isList; exact Heap.lt_size e
  have a2 : b < s1.heap.objs.size := by obtain ⟨_, e, _⟩ := pm.isList; exact Heap.lt_size e
  refine call_zip_2 pl.isList pm.isList fun h' c1 c2 c3 c4 c5 c6 c7 => ?_
  refine wpAny_pyIter_zip (s := { s1 with heap := h' }) c1 ?_
  refine ⟨_, [s1.heap.objs.size + 4, s1.heap.objs.size + 2, s1.heap.objs.size + 3, s1.heap.objs.size, s1.heap.objs.size + 1], _, _, H1, rfl, I1.kept (t' := s1.toks) c7, turn_zip (zipApart_new a1 a2), ⟨c1, c2, ⟨_, _, c3⟩, c4, c5⟩, fun c hc => ?_, q⟩
  have hle : s1.heap.objs.size ≤ c := by
    simp only [List.mem_cons, List.not_mem_nil, or_false] at hc
    rcases hc with rfl | rfl | rfl | rfl | rfl
    · exact Nat.le_add_right _ _
    · exact Nat.le_add_right _ _
    · exact Nat.le_add_right _ _
    · exact Nat.le_refl _
    · exact Nat.le_add_right _ _
  exact I1.fpOk hle (I1.hok.fresh hle)
theorem ji_zip {e1 e2 : Expr} {ta : TA} {p pos : Pos} {es : List Expr} {x1 : Nat} {tp : Pos} (hg : Gl X "zip") (hm : X.mg "zip" = none) (ha : JA X [e1, e2] ta) (hs : starEach [e1, e2] X.env = [(false, eval e1 X.env), (false, eval e2 X.env)] := by rfl) (hs2 : starEach [e2] X.env = [(false, eval e2 X.env)] := by rfl) :
    JI X (.Tuple es x1 tp) (.Call (.Name "zip" p) [e1, e2] [] pos) (iZip X.K ta) := ⟨pi_zip hg hm ha.h hs hs2⟩
end
end L2
namespace L2
open PySem PySem.Spec PyProof.Rows
section
variable {X : Cx}
theorem pg_tupK {es : List Expr} {k : Nat} {t : TGs} {n : Nat} {pos : Pos} (K : PySem.W.Frag) (hK : X.K = K) (hc : X.calm = true) (h : PGs X es t)
    (hn : (assignEach es X.env).length = n := by rfl) (hst : (assignEach es X.env).findIdx? (·.1) = none := by rfl) : PG X (.Tuple es k pos) (gTup K n t) := by
  subst hK
  exact pg_tup hc h hn hst
theorem jg_tupK {es : List Expr} {k : Nat} {t : TGs} {n : Nat} {pos : Pos} (K : PySem.W.Frag) (hK : X.K = K) (hc : X.calm = true) (h : JGs X es t)
    (hn : (assignEach es X.env).length = n := by rfl) (hst : (assignEach es X.env).findIdx? (·.1) = none := by rfl) : JG X (.Tuple es k pos) (gTup K n t) := ⟨pg_tupK K hK hc h.h hn hst⟩
/-- over two lists side by side -/
theorem comp_zip {K : PySem.W.Frag} {a b : Addr} {xs ys : List V} {n : Nat} {js : List Nat} {te : TE} {σ : St} {H : Hp} {Q : VK} (F : Nat → V) (Pv : Nat → Hp → Prop) (hp : Pv 0 H) (hn : n ≤ sizeLine) (lx : xs.length = n) (ly : ys.length = n)
    (hl : ∀ i H, Pv i H → SqL K H a xs ∧ SqL K H b ys) (hP : ∀ i H H', Pv i H → Same H H' → Pv i H')
    (hs : ∀ i x y H, i < n → xs[i]? = some x → ys[i]? = some y → Pv i H → te (some x :: some y :: seen js σ) H fun u H3 => (List.range i).map F ++ [u] = (List.range (i + 1)).map F ∧ Pv (i + 1) H3)
    (hd : ∀ H, Pv n H → NewL H Q ((List.range n).map F)) :
    ∃ W : Nat → Nat → List V → Hp → Prop, (∃ m, W 0 m [] H) ∧ ∀ i m ys H, W i m ys H → ys.length ≤ sizeLine ∧ (((Itz K a b).stop i H ∧ NewL H Q ys) ∨
    ((Itz K a b).go i H ∧ ∃ N : List V → Hp → Prop, (∀ ys' H', N ys' H' → ∃ m', m' < m ∧ W (i + 1) m' ys' H') ∧ ∀ v H' τ, (Itz K a b).yld i H v H' → τ.length = 2 → gTup K 2 (gCons (gName 0) (gCons (gName 1) gNil)) v (τ ++ seen js σ) H' fun σ6 H6 => ∃ τ', σ6 = τ' ++ seen js σ ∧ τ'.length = 2 ∧ tYes σ6 H6 fun b H2 =>
      if b = true then te σ6 H2 fun u H3 => N (ys ++ [u]) H3 else N ys H2)) := by
  refine ⟨fun i m zs H => m = n - i ∧ i ≤ n ∧ zs = (List.range i).map F ∧ Pv i H, ⟨n, by simp, Nat.zero_le _, rfl, hp⟩, ?_⟩
  rintro i m zs H ⟨rfl, hi, rfl, p⟩
  obtain ⟨q1, q2⟩ := hl i H p
  refine ⟨by rw [List.length_map, List.length_range]; omega, ?_⟩
  rcases Nat.lt_or_ge i n with hlt | hge
  · have ex : xs[i]? = some (xs[i]'(by omega)) := List.getElem?_eq_getElem (by omega)
    have ey : ys[i]? = some (ys[i]'(by omega)) := List.getElem?_eq_getElem (by omega)
    refine .inr ⟨⟨xs, ys, _, _, q1, q2, ex, ey⟩, fun zs' H' => zs' = (List.range (i + 1)).map F ∧ Pv (i + 1) H', fun zs' H' ⟨e, q'⟩ => ⟨n - (i + 1), by omega, rfl, hlt, e, q'⟩, ?_⟩
    rintro v H' τ ⟨T, x, y, rfl, hT, hx, hy, hH, sm⟩ hτ
    match τ, hτ with
    | [o1, o2], _ =>
      refine ⟨T, [x, y], rfl, SqT.of hH, rfl, x, [y], rfl, y, [], rfl, rfl, [some x, some y], rfl, rfl, ?_⟩
      show (if true = true then te (some x :: some y :: seen js σ) H' fun u H3 => (List.range i).map F ++ [u] = (List.range (i + 1)).map F ∧ Pv (i + 1) H3 else (List.range i).map F = (List.range (i + 1)).map F ∧ Pv (i + 1) H')
      exact iteT (hs i x y H' hlt (hx xs q1) (hy ys q2) (hP i H H' p sm))
  · have e : i = n := by omega
    subst e
    exact .inl ⟨⟨xs, ys, q1, q2, .inl (by omega)⟩, hd H p⟩
/-- over a list of any items, without a test -/
theorem comp_mkL {K : PySem.W.Frag} {a : Addr} {xs : List V} {js : List Nat} {te : TE} {σ : St} {H : Hp} {Q : VK} (F : Nat → V) (Pv : Nat → Hp → Prop) (hp : Pv 0 H) (hn : xs.length ≤ sizeLine)
    (hl : ∀ i H, i ≤ xs.length → Pv i H → SqL K H a xs)
    (hs : ∀ i v H, xs[i]? = some v → Pv i H → te (some v :: seen js σ) H fun u H3 => (List.range i).map F ++ [u] = (List.range (i + 1)).map F ∧ Pv (i + 1) H3)
    (hd : ∀ H, Pv xs.length H → NewL H Q ((List.range xs.length).map F)) :
    ∃ W : Nat → Nat → List V → Hp → Prop, (∃ m, W 0 m [] H) ∧ ∀ i m ys H, W i m ys H → ys.length ≤ sizeLine ∧ (((Itl K a).stop i H ∧ NewL H Q ys) ∨
    ((Itl K a).go i H ∧ ∃ N : List V → Hp → Prop, (∀ ys' H', N ys' H' → ∃ m', m' < m ∧ W (i + 1) m' ys' H') ∧ ∀ v H', (Itl K a).yld i H v H' → tYes (some v :: seen js σ) H' fun b H2 =>
      if b = true then te (some v :: seen js σ) H2 fun u H3 => N (ys ++ [u]) H3 else N ys H2)) := by
  refine ⟨fun i m zs H => m = xs.length - i ∧ i ≤ xs.length ∧ zs = (List.range i).map F ∧ Pv i H, ⟨xs.length, by simp, Nat.zero_le _, rfl, hp⟩, ?_⟩
  rintro i m zs H ⟨rfl, hi, rfl, p⟩
  have sq := hl i H hi p
  refine ⟨by rw [List.length_map, List.length_range]; omega, ?_⟩
  rcases Nat.lt_or_ge i xs.length with hlt | hge
  · have ex : xs[i]? = some (xs[i]'hlt) := List.getElem?_eq_getElem hlt
    refine .inr ⟨⟨_, _, sq, ex⟩, fun zs' H' => zs' = (List.range (i + 1)).map F ∧ Pv (i + 1) H', fun zs' H' ⟨e, q'⟩ => ⟨xs.length - (i + 1), by omega, rfl, hlt, e, q'⟩, ?_⟩
    rintro v H' ⟨rfl, hv⟩
    show (if true = true then te (some v :: seen js σ) H' fun u H3 => (List.range i).map F ++ [u] = (List.range (i + 1)).map F ∧ Pv (i + 1) H3 else (List.range i).map F = (List.range (i + 1)).map F ∧ Pv (i + 1) H')
    exact iteT (hs i v H' (hv xs sq) p)
  · have e : i = xs.length := by omega
    subst e
    exact .inl ⟨⟨_, sq, Nat.le_refl _⟩, hd H p⟩
end
/-- numbers all unlike: the set holds as many -/
theorem distinct_len {ns : List Int} (h : ∀ i j, i < j → j < ns.length → ns.getD i 0 ≠ ns.getD j 0) : (distinct ns).length = ns.length := by
  have key : ∀ i, i ≤ ns.length → firstMet (fun i => ns.getD i 0) i = ns.take i := by
    intro i
    induction i with
    | zero => intro _; rw [firstMet_zero]; rfl
    | succ i ih =>
      intro hi
      have e : ns[i]? = some (ns[i]'(by omega)) := List.getElem?_eq_getElem (by omega)
      have g : ns.getD i 0 = ns[i]'(by omega) := by rw [List.getD_eq_getElem?_getD, e]; rfl
      rw [firstMet_succ, ih (by omega), List.take_add_one, e]
      show step_dedup (ns.take i) (ns.getD i 0) = _
      rw [g]
      unfold step_dedup
      have nm : ns[i]'(by omega) ∉ ns.take i := by
        intro hm
        obtain ⟨j, hj, ej⟩ := List.mem_iff_getElem.mp hm
        rw [List.getElem_take] at ej
        have hj' : j < i := by rw [List.length_take] at hj; omega
        refine h j i hj' (by omega) ?_
        rw [g, ← ej, List.getD_eq_getElem?_getD, List.getElem?_eq_getElem (by omega)]
        rfl
      simp [nm]
  unfold distinct
  rw [key _ (Nat.le_refl _), List.take_length]
end L2
namespace L2
open PySem PySem.Spec PyProof.Rows
section
variable {prog : Program} {w : World} {A : Around} {E : Value → Shared → Prop} {s : Shared}
/-! ### list(reversed(a list)) -/
theorem lri_len : typeLookup (.type "list_reverseiterator") "__len__" = pure none := by
  rw [typeLookup_type, builtinLookup_eq_fast]
  kernel_rfl
theorem lri_hint : typeLookup (.type "list_reverseiterator") "__length_hint__" = pure (some (.builtin "list_reverseiterator.__length_hint__")) := by
  rw [typeLookup_type, builtinLookup_eq_fast]
  kernel_rfl
theorem hint_rev {it l : Addr} {i : Int} {Q : Bool → Shared → Prop} (hit : s.heap.IsRevIter it l i) (h : Q false s) : wpAny (model prog w) A (Builtin.List.listLengthHint (.ref it)) Q E s := by
  unfold Builtin.List.listLengthHint
  refine wpAny_bind (wpAny_specialOf hit.typeIs lri_len ?_)
  refine (show wpAny _ _ (specialOf (Value.ref it) (Str.ofString "__length_hint__") >>= _) _ _ _ from ?_)
  refine wpAny_bind (wpAny_specialOf hit.typeIs lri_hint ?_)
  generalize hN : ("list_reverseiterator.__length_hint__" : String) = nm
  wp_delta
  rw [show splitId nm = some ("list_reverseiterator", "__length_hint__") from by subst hN; decide +kernel]
  subst hN
  refine wpAny_bind (wpAny_isInstance (T := "list_reverseiterator") (b := true) hit.typeIs (by rw [isSubtype_type]; kernel_rfl) ?_)
  refine wpAny_ite_split (fun ne => absurd ne (by decide)) fun _ => ?_
  refine wpAny_ite_split (fun _ => ?_) fun ne => absurd (by decide +kernel) ne
  refine wpAny_ite_split (fun ne => absurd ne (by decide +kernel)) fun _ => ?_
  exact wpAny_pure h
theorem call_list_rev {it l : Addr} {items : Array Value} {Q : Value → Shared → Prop} (hh : A.handled = none) (hit : s.heap.IsRevIter it l ((items.size : Int) - 1)) (hl : s.heap.IsList l items) (hne : l ≠ it) (hz : items.size ≤ sizeLine)
    (hQ : ∀ h' tk acc c, (∀ b o, b ≠ it → s.heap.get? b = some o → h'.get? b = some o) → h'.get? s.heap.objs.size = some { cls := .type "list", dict := none, data := .seq acc c, slots := #[] } →
      ItemsOf (fun i v => items[items.size - 1 - i]? = some v) acc items.size → Q (.ref s.heap.objs.size) { s with heap := h', toks := tk }) : wpAny (model prog w) A (call (.type "list") [.ref it]) Q E s := by
  have hlt : ∀ b o, s.heap.get? b = some o → b ≠ s.heap.objs.size := fun b o e => Nat.ne_of_lt (Heap.lt_size e)
  obtain ⟨oi, ei, _⟩ := id hit
  obtain ⟨ol, el, _⟩ := id hl
  have nfp : s.heap.objs.size ∉ [it, l] := by
    intro hm
    simp only [List.mem_cons, List.not_mem_nil, or_false] at hm
    rcases hm with y | y
    · exact hlt _ _ ei y.symm
    · exact hlt _ _ el y.symm
  refine callType_codes (Q₁ := fun obj t => obj = .ref s.heap.objs.size ∧ t = { s with heap := s.heap.push { cls := .type "list", data := .seq #[] } }) F.called_list (F.typeCall_list_1 _) F.entry_list_init (code_list_new _ ⟨rfl, rfl⟩) fun obj t ht => ?_
  obtain ⟨rfl, rfl⟩ := ht
  have g0 : (s.heap.push { cls := .type "list", data := .seq #[] }).get? s.heap.objs.size = some { cls := .type "list", data := .seq #[] } := Heap.get?_push_size _ rfl
  refine ⟨⟨_, g0, rfl⟩, F.args_list_init_2 _ _, ?_⟩
  refine (show wpAny _ _ (do
    let old ← Builtin.List.listItems (.ref s.heap.objs.size)
    Builtin.List.listUpdate (.ref s.heap.objs.size) (fun _ => #[])
    letGo old.toList.reverse
    Builtin.List.listExtendWith (.ref s.heap.objs.size) (.ref it) .none) _ _ _ from ?_)
  refine wpAny_bind ?_
  unfold Builtin.List.listItems
  refine wpAny_bind (wpAny_seqItems g0 rfl (wpAny_pure ?_))
  refine (show wpAny _ _ (updateSeq s.heap.objs.size (fun _ => #[]) >>= fun _ => letGo (#[] : Array Value).toList.reverse >>= fun _ => Builtin.List.listExtendWith (.ref s.heap.objs.size) (.ref it) .none) _ _ _ from ?_)
  refine wpAny_bind (wpAny_updateSeq g0 rfl ?_)
  have g1 := Heap.get?_update_self (Obj.mapSeq (fun _ => (#[] : Array Value))) g0 rfl
  generalize hG : (s.heap.push { cls := .type "list", data := .seq #[] }).update s.heap.objs.size (Obj.mapSeq fun _ => (#[] : Array Value)) = h1 at g1 ⊢
  have k1 : ∀ b o, s.heap.get? b = some o → h1.get? b = some o := fun b o e => by
    rw [← hG]
    exact (Heap.get?_update_other _ _ (Ne.symm (hlt b o e))).trans (Heap.get?_push_of_some _ e)
  refine wpAny_bind (wpAny_letGo ?_)
  have hit1 : h1.IsRevIter it l ((items.size : Int) - 1) := hit.at fun o e => k1 _ o e
  have hl1 : h1.IsList l items := hl.at fun o e => k1 _ o e
  unfold Builtin.List.listExtendWith
  refine wpAny_bind (wpAny_typeOf (T := "list_reverseiterator") (s := { s with heap := h1 }) hit1.typeIs ?_)
  have q1 : Builtin.List.listSameRef (.ref s.heap.objs.size) (.ref it) = false := by
    have : s.heap.objs.size ≠ it := Ne.symm (hlt _ _ ei)
    simp [Builtin.List.listSameRef, this]
  have q2 : (Value.type "list_reverseiterator" == Value.type "list") = false := by decide
  have q3 : (Value.type "list_reverseiterator" == Value.type "tuple") = false := by decide
  simp only [q1, q2, q3, Bool.or_false, Bool.false_eq_true, if_false]
  refine wpAny_bind (wpAny_pyIter_revIter (s := { s with heap := h1 }) hit1 ?_)
  refine wpAny_bind (wpAny_holding (hint_rev (s := { s with heap := h1 }) hit1 ?_))
  refine wpAny_ite_split (fun ne => absurd ne (by decide +kernel)) fun _ => ?_
  have W := (Walks.listRev (prog := prog) (w := w) (A := A.in1.in1) hh it l hne items).toS
  refine wpAny_pure ⟨plainId_quiet F.plain_extend_loop _, codeAny_extend_loopS W hz _ nfp _ items.size 0 _ #[] _ rfl (Nat.zero_le _) ⟨Nat.zero_le _, ?_, hl1⟩ g1 (ItemsOf.nil _) fun t acc c hm hS hacc => ?_⟩
  · rw [show (items.size : Int) - 1 - ((0 : Nat) : Int) = (items.size : Int) - 1 by omega]
    exact hit1
  · rw [Moved.eq_with hm]
    refine ⟨rfl, hQ t.heap t.toks acc c (fun b o nb e => hm.heap b o (fun y => ?_) (k1 b o e)) hS hacc⟩
    rcases List.mem_cons.mp y with y | y
    · exact hlt b o e y
    · exact nb (List.mem_singleton.mp y)
end
section
variable {X : Cx} {e : Expr} {ta : TA} {p p' pos pos' : Pos}
def tLRev (K : PySem.W.Frag) (ta : TA) : TE := fun σ H Q => ta σ H fun vs H1 => ∃ a xs, vs = [.ref a] ∧ SqL K H1 a xs ∧ NewL H1 Q xs.reverse
theorem pe_lrev (hc : X.calm = true) (hg : Gl X "list") (hm : X.mg "list" = none) (hg' : Gl X "reversed") (hm' : X.mg "reversed" = none) (ha : PA X [e] ta) (hs : starEach [e] X.env = [(false, eval e X.env)] := by rfl)
    (hs2 : starEach [.Call (.Name "reversed" p') [e] [] pos'] X.env = [(false, eval (.Call (.Name "reversed" p') [e] [] pos') X.env)] := by rfl) : PE X (.Call (.Name "list" p) [.Call (.Name "reversed" p') [e] [] pos'] [] pos) (tLRev X.K ta) := by
  intro pins s σ H Q I h
  refine Call_ (ld_blt I hg hm (u := .type "list") (by rfl) (PyProof.Rows.callWith_type1 ?_ hs2 rfl))
  rw [hs2]
  show wpAny _ _ (spliced ((false, eval (.Call (.Name "reversed" p') [e] [] pos') X.env) :: backTo pos [])) _ _ s
  refine Calls.spliced_cons ?_
  refine Call_ (ld_blt I hg' hm' (u := .type "reversed") (by rfl) (PyProof.Rows.callWith_type1 (thn (ha pos' pins s σ H _ I h) fun us s1 ⟨vs, H1, I1, r1, q1⟩ => ?_) hs rfl))
  obtain ⟨a, xs, rfl, hq, q⟩ := q1
  obtain ⟨u, rfl, rx⟩ := vals1 r1
  cases rx
  obtain ⟨its, rv, pl, hz⟩ := I1.list hq
  have hl := rv.length
  refine call_reversed_list pl.isList ?_
  refine Calls.spliced_nil ?_
  have a1 : a < s1.heap.objs.size := by obtain ⟨_, e, _⟩ := pl.isList; exact Heap.lt_size e
  have hH : s1.heap.objs.size + 1 = (s1.heap.push (revObj a ((its.toArray.size : Int) - 1))).objs.size := by rw [Heap.size_push]
  refine call_list_rev (s := { s1 with heap := s1.heap.push (revObj a ((its.toArray.size : Int) - 1)) }) (it := s1.heap.objs.size) (l := a) (items := its.toArray) (I1.ok.hd hc) ⟨_, Heap.get?_push_size _ rfl, rfl, rfl⟩ (pl.isList.at fun o e => Heap.get?_push_of_some _ e) (Nat.ne_of_lt a1) (by rw [List.size_toArray, ← hl]; exact hz) fun h' tk acc c k hS hacc => ?_
  have kk : ∀ b o, s1.heap.get? b = some o → h'.get? b = some o := fun b o e => k b o (Nat.ne_of_lt (Heap.lt_size e)) (Heap.get?_push_of_some _ e)
  have hle : s1.heap.objs.size ≤ (s1.heap.push (revObj a ((its.toArray.size : Int) - 1))).objs.size := by rw [Heap.size_push]; exact Nat.le_succ _
  have eacc : acc = its.reverse.toArray := by
    have z1 : acc.size = its.length := by simpa using hacc.1
    have z2 := hacc.2
    apply Array.ext_getElem?
    intro i
    rcases Nat.lt_or_ge i acc.size with y | y
    · have e1 : acc[i]? = some acc[i] := Array.getElem?_eq_getElem y
      have e2 := z2 i _ e1
      rw [e1]
      have e3 : its[its.length - 1 - i]? = some acc[i] := by simpa using e2
      rw [List.getElem?_toArray, List.getElem?_reverse (by omega), e3]
    · rw [Array.getElem?_eq_none y, Array.getElem?_eq_none (by simp; omega)]
  subst eacc
  refine ⟨.ref _, _, I1.laid (t' := tk) (o := .lst xs.reverse) kk hle ⟨by rw [List.length_reverse]; exact hz, its.reverse, c, rv.reverse, hS⟩, rfl, q.upd _ (I1.hok.fresh hle)⟩
theorem je_lrev (hc : X.calm = true) (hg : Gl X "list") (hm : X.mg "list" = none) (hg' : Gl X "reversed") (hm' : X.mg "reversed" = none) (ha : JA X [e] ta) (hs : starEach [e] X.env = [(false, eval e X.env)] := by rfl)
    (hs2 : starEach [.Call (.Name "reversed" p') [e] [] pos'] X.env = [(false, eval (.Call (.Name "reversed" p') [e] [] pos') X.env)] := by rfl) : JE X (.Call (.Name "list" p) [.Call (.Name "reversed" p') [e] [] pos'] [] pos) (tLRev X.K ta) := ⟨pe_lrev hc hg hm hg' hm' ha.h hs hs2⟩
end
end L2
set_option maxHeartbeats 4000000
namespace NT
/-- no number from 2 to below it goes into it -/
def Pr (p : Nat) : Prop := 2 ≤ p ∧ ∀ d, 2 ≤ d → d < p → p % d ≠ 0
def noPart (p : Nat) : Nat → Nat → Bool
  | 0, _ => true
  | f + 1, d => if d < p then (!(p % d == 0)) && noPart p f (d + 1) else true
theorem noPart_ok (p : Nat) : ∀ f d, p ≤ f + d → noPart p f d = true → ∀ e, d ≤ e → e < p → p % e ≠ 0
  | 0, d, h, _, e, h1, h2 => by omega
  | f + 1, d, h, hn, e, h1, h2 => by
    unfold noPart at hn
    by_cases hd : d < p
    · rw [if_pos hd, Bool.and_eq_true] at hn
      by_cases he : e = d
      · subst he
        have := hn.1
        simpa using this
      · exact noPart_ok p f (d + 1) (by omega) hn.2 e (by omega) h2
    · omega
def prB (p : Nat) : Bool := Nat.ble 2 p && noPart p p 2
theorem prB_ok {p : Nat} (h : prB p = true) : Pr p := by
  unfold prB at h
  rw [Bool.and_eq_true] at h
  exact ⟨Nat.le_of_ble_eq_true h.1, noPart_ok p p 2 (by omega) h.2⟩
/-- a^(p-1) leaves 1, for all a from 1 to below p -/
def ferm (p : Nat) : Nat → Bool
  | 0 => true
  | a + 1 => Nat.beq ((a + 1) ^ (p - 1) % p) 1 && ferm p a
theorem ferm_ok {p : Nat} : ∀ {n a : Nat}, ferm p n = true → 0 < a → a ≤ n → a ^ (p - 1) % p = 1
  | 0, a, _, h1, h2 => by omega
  | n + 1, a, h, h1, h2 => by
    unfold ferm at h
    rw [Bool.and_eq_true] at h
    by_cases e : a = n + 1
    · subst e; exact Nat.eq_of_beq_eq_true h.1
    · exact ferm_ok h.2 h1 (by omega)
/-- all primes to n -/
def allF : Nat → Bool
  | 0 => true
  | p + 1 => ((!prB (p + 1)) || ferm (p + 1) p) && allF p
theorem allF_997 : allF 997 = true := by decide +kernel
end NT
namespace NT
theorem pow_emod (a : Int) (p : Int) : ∀ n : Nat, (a % p) ^ n % p = a ^ n % p
  | 0 => by rw [Int.pow_zero, Int.pow_zero]
  | n + 1 => by
    rw [Int.pow_succ, Int.pow_succ, Int.mul_emod, pow_emod a p n, Int.emod_emod, ← Int.mul_emod]
theorem pow_sq (a : Int) : ∀ n : Nat, (a * a) ^ n = a ^ (2 * n)
  | 0 => by rw [Nat.mul_zero, Int.pow_zero, Int.pow_zero]
  | n + 1 => by rw [Int.pow_succ, pow_sq a n, Nat.mul_succ, Int.pow_succ, Int.pow_succ, Int.mul_assoc]
/-- one turn of the squaring: an odd rest of the power's number -/
theorem turn_odd {p told square target : Int} {left : Nat} (h : told * square ^ left % p = target) (ho : left % 2 = 1) :
    (told * square % p) * (square * square % p) ^ (left / 2) % p = target := by
  rw [← h, Int.mul_emod, pow_emod, Int.emod_emod, ← Int.mul_emod]
  congr 1
  have : left = 2 * (left / 2) + 1 := by omega
  rw [pow_sq, Int.mul_assoc]
  congr 1
  rw [Int.mul_comm, ← Int.pow_succ]
  congr 1; omega
theorem turn_even {p told square target : Int} {left : Nat} (h : told * square ^ left % p = target) (he : left % 2 = 0) :
    told * (square * square % p) ^ (left / 2) % p = target := by
  rw [← h, Int.mul_emod, pow_emod, ← Int.mul_emod]
  congr 1
  rw [pow_sq, show 2 * (left / 2) = left by omega]
theorem step_pow {p one found : Int} {k : Nat} (h : found % p = one ^ k % p) : found * one % p % p = one ^ (k + 1) % p := by
  rw [Int.emod_emod, Int.pow_succ, Int.mul_emod, h, ← Int.mul_emod]
/-- Fermat for ints -/
theorem fermatI {p a : Nat} (h : a ^ (p - 1) % p = 1) : (a : Int) ^ (p - 1) % (p : Int) = 1 := by
  have : (((a ^ (p - 1) % p : Nat)) : Int) = 1 := by rw [h]; rfl
  rw [← this]; simp
theorem pow_rest {p a : Int} {m : Nat} (h : a ^ m % p = 1) (h1 : 1 % p = 1) (n : Nat) : a ^ n % p = a ^ (n % m) % p := by
  have e : n = m * (n / m) + n % m := (Nat.div_add_mod n m).symm
  have : a ^ n = (a ^ m) ^ (n / m) * a ^ (n % m) := by
    rw [← Int.pow_mul, ← Int.pow_add, ← e]
  rw [this, Int.mul_emod, ← pow_emod, h, Int.one_pow, h1, Int.one_mul, Int.emod_emod]
end NT
namespace NT
/-- below 1,024 the numbers to 31 are enough -/
theorem pr_of_31 {n : Nat} (h2 : 2 ≤ n) (h : n ≤ 997) (k : ∀ i : Nat, i < 30 → ¬ (2 + i < n ∧ n % (2 + i) = 0)) : Pr n := by
  refine ⟨h2, fun d hd hdn e => ?_⟩
  rcases Nat.lt_or_ge d 32 with z | z
  · exact k (d - 2) (by omega) (by rw [show 2 + (d - 2) = d by omega]; exact ⟨hdn, e⟩)
  · have e1 : d * (n / d) = n := Nat.mul_div_cancel' (Nat.dvd_of_mod_eq_zero e)
    have g0 : n / d ≠ 0 := fun q => by rw [q] at e1; omega
    have g1 : n / d ≠ 1 := fun q => by rw [q] at e1; omega
    have g2 : n / d < 32 := by
      rcases Nat.lt_or_ge (n / d) 32 with y | y
      · exact y
      · have := Nat.mul_le_mul z y
        omega
    have e2 : n % (n / d) = 0 := by
      have := Nat.mul_mod_left d (n / d)
      rw [e1] at this
      exact this
    have g3 : n / d < n := Nat.div_lt_self (by omega) (by omega)
    generalize n / d = e at *
    exact k (e - 2) (by omega) (by rw [show 2 + (e - 2) = e by omega]; exact ⟨g3, e2⟩)
def tab : List Nat := [2, 3, 5, 7, 11, 13, 17, 19, 23, 29, 31, 37, 41, 61, 97, 193, 257, 337, 577, 997]
theorem no_997 : ∀ i : Nat, i < 30 → ¬ (2 + i < 997 ∧ 997 % (2 + i) = 0) := by decide
theorem tab_le : ∀ p ∈ tab, p ≤ 997 := by decide
theorem tab_31 : ∀ p ∈ tab, 2 ≤ p ∧ ∀ i : Nat, i < 30 → ¬ (2 + i < p ∧ p % (2 + i) = 0) := by decide
theorem tab_pr {p : Nat} (h : p ∈ tab) : Pr p := pr_of_31 (tab_31 p h).1 (tab_le p h) (tab_31 p h).2
end NT
namespace NT
theorem noPart_of (p : Nat) : ∀ f d, (∀ e, d ≤ e → e < p → p % e ≠ 0) → noPart p f d = true
  | 0, _, _ => rfl
  | f + 1, d, h => by
    unfold noPart
    by_cases hd : d < p
    · rw [if_pos hd, Bool.and_eq_true]
      refine ⟨?_, noPart_of p f (d + 1) fun e h1 h2 => h e (by omega) h2⟩
      have := h d (Nat.le_refl _) hd
      simpa using this
    · rw [if_neg hd]
theorem prB_of {p : Nat} (h : Pr p) : prB p = true := by
  unfold prB
  rw [Bool.and_eq_true]
  exact ⟨Nat.ble_eq_true_of_le h.1, noPart_of p p 2 h.2⟩
theorem allF_at : ∀ {n p : Nat}, allF n = true → 0 < p → p ≤ n → Pr p → ferm p (p - 1) = true
  | 0, p, _, h0, h1, _ => by omega
  | n + 1, p, h, h0, h1, pr => by
    unfold allF at h
    rw [Bool.and_eq_true] at h
    by_cases e : p = n + 1
    · subst e
      have h := h.1
      rw [prB_of pr] at h
      exact h
    · exact allF_at h.2 h0 (by omega) pr
theorem fermat {p a : Nat} (pr : Pr p) (le : p ≤ 997) (h0 : 0 < a) (h1 : a < p) : a ^ (p - 1) % p = 1 :=
  ferm_ok (allF_at allF_997 (by omega) le pr) h0 (by omega)
theorem fermatZ {p : Nat} {a : Int} (pr : Pr p) (le : p ≤ 997) (h0 : 0 < a) (h1 : a < p) : a ^ (p - 1) % (p : Int) = 1 := by
  have e : a = ((a.toNat : Nat) : Int) := by omega
  rw [e]
  exact fermatI (fermat pr le (by omega) (by omega))
theorem one_mod {p : Nat} (h : 2 ≤ p) : (1 : Int) % (p : Int) = 1 := Int.emod_eq_of_lt (by decide) (by omega)
theorem pow_less {p : Nat} {a n : Int} (pr : Pr p) (le : p ≤ 997) (h0 : 0 < a) (h1 : a < p) (hn : 0 ≤ n) : a ^ n.toNat % (p : Int) = a ^ (n % ((p : Int) - 1)).toNat % (p : Int) := by
  have p2 := pr.1
  rw [pow_rest (fermatZ pr le h0 h1) (one_mod p2) n.toNat]
  congr 2
  have e1 : n = ((n.toNat : Nat) : Int) := by omega
  have e2 : (p : Int) - 1 = ((p - 1 : Nat) : Int) := by omega
  generalize n.toNat = k at *
  subst e1
  rw [e2, ← Int.natCast_emod, Int.toNat_natCast]
theorem inv_ok {p : Nat} {a : Int} (pr : Pr p) (le : p ≤ 997) (h0 : 0 < a) (h1 : a < p) : 0 < a ^ (p - 2) % (p : Int) ∧ a ^ (p - 2) % (p : Int) < p ∧ a ^ (p - 2) % (p : Int) * a % p = 1 := by
  have p2 := pr.1
  have e : a ^ (p - 2) % (p : Int) * a % p = 1 := by
    rw [← fermatZ pr le h0 h1, show p - 1 = (p - 2) + 1 by omega, Int.pow_succ, Int.mul_emod, Int.emod_emod, ← Int.mul_emod]
  have n0 : 0 ≤ a ^ (p - 2) % (p : Int) := Int.emod_nonneg _ (by omega)
  refine ⟨?_, Int.emod_lt_of_pos _ (by omega), e⟩
  rcases Int.lt_or_eq_of_le n0 with z | z
  · exact z
  · rw [← z, Int.zero_mul, Int.zero_emod] at e
    cases e
end NT
namespace NT
/-! ### orders -/
structure IsOrd (m : Nat) (a : Int) (n : Nat) : Prop where
  pos : 1 ≤ n
  one : a ^ n % (m : Int) = 1
  least : ∀ k : Nat, 1 ≤ k → k < n → a ^ k % (m : Int) ≠ 1
theorem IsOrd.uniq {m : Nat} {a : Int} {n k : Nat} (x : IsOrd m a n) (y : IsOrd m a k) : n = k := by
  rcases Nat.lt_trichotomy n k with h | h | h
  · exact absurd x.one (y.least n x.pos h)
  · exact h
  · exact absurd y.one (x.least k y.pos h)
/-- the first number from n on (f are tried) -/
def ordF (m a : Nat) : Nat → Nat → Nat
  | 0, n => n
  | f + 1, n => if Nat.beq (a ^ n % m) 1 = true then n else ordF m a f (n + 1)
theorem ordF_ok {m a : Nat} : ∀ {f n k : Nat}, n ≤ k → k < n + f → a ^ k % m = 1 → n ≤ ordF m a f n ∧ a ^ ordF m a f n % m = 1 ∧ ∀ j, n ≤ j → j < ordF m a f n → a ^ j % m ≠ 1
  | 0, n, k, h1, h2, _ => by omega
  | f + 1, n, k, h1, h2, h3 => by
    unfold ordF
    by_cases e : Nat.beq (a ^ n % m) 1 = true
    · rw [if_pos e]
      exact ⟨Nat.le_refl _, Nat.eq_of_beq_eq_true e, fun j z1 z2 => by omega⟩
    · rw [if_neg e]
      have ne : a ^ n % m ≠ 1 := fun z => e (by rw [z]; rfl)
      have nk : n ≠ k := fun z => ne (by rw [z]; exact h3)
      obtain ⟨g1, g2, g3⟩ := ordF_ok (m := m) (a := a) (f := f) (n := n + 1) (k := k) (by omega) (by omega) h3
      refine ⟨by omega, g2, fun j z1 z2 => ?_⟩
      by_cases w : j = n
      · rw [w]; exact ne
      · exact g3 j (by omega) z2
def ordN (m a : Nat) : Nat := ordF m a m 1
def ordZ (m : Nat) (a : Int) : Nat := ordN m a.toNat
theorem pow_nat {m : Nat} {a : Int} (h : 0 ≤ a) (n : Nat) : a ^ n % (m : Int) = ((a.toNat ^ n % m : Nat) : Int) := by
  have e : a = ((a.toNat : Nat) : Int) := by omega
  generalize a.toNat = b at *
  subst e
  simp
theorem pow_nat1 {m : Nat} {a : Int} (h : 0 ≤ a) (n : Nat) : a ^ n % (m : Int) = 1 ↔ a.toNat ^ n % m = 1 := by
  rw [pow_nat h]
  omega
theorem ordZ_ok {m : Nat} {a : Int} (pr : Pr m) (le : m ≤ 997) (h0 : 0 < a) (h1 : a < m) : IsOrd m a (ordZ m a) := by
  have p2 := pr.1
  have f := fermat pr le (a := a.toNat) (by omega) (by omega)
  obtain ⟨g1, g2, g3⟩ := ordF_ok (m := m) (a := a.toNat) (f := m) (n := 1) (k := m - 1) (by omega) (by omega) f
  refine ⟨g1, (pow_nat1 (by omega) _).mpr g2, fun k k1 k2 z => ?_⟩
  exact g3 k k1 k2 ((pow_nat1 (by omega) _).mp z)
theorem IsOrd.dvd {m : Nat} {a : Int} {n k : Nat} (x : IsOrd m a n) (h1 : (1 : Int) % m = 1) (e : a ^ k % (m : Int) = 1) : k % n = 0 := by
  have q := pow_rest x.one h1 k
  rw [e] at q
  have lt : k % n < n := Nat.mod_lt _ x.pos
  rcases Nat.eq_zero_or_pos (k % n) with z | z
  · exact z
  · exact absurd q.symm (x.least _ z lt)
theorem IsOrd.dvd1 {m : Nat} {a : Int} {n : Nat} (x : IsOrd m a n) (pr : Pr m) (le : m ≤ 997) (h0 : 0 < a) (h1 : a < m) : (m - 1) % n = 0 :=
  x.dvd (one_mod pr.1) (fermatZ pr le h0 h1)
theorem IsOrd.le {m : Nat} {a : Int} {n : Nat} (x : IsOrd m a n) (pr : Pr m) (le : m ≤ 997) (h0 : 0 < a) (h1 : a < m) : n ≤ m - 1 := by
  rcases Nat.lt_or_ge (m - 1) n with z | z
  · have p2 := pr.1
    exact absurd (fermatZ pr le h0 h1) (x.least _ (by omega) z)
  · exact z
/-- rests whose power by s is 1; those of order s -/
def near (m : Nat) (s : Int) : List Int := ((List.range (m - 1)).filter fun k => decide ((1 + ((k : Nat) : Int)) ^ s.toNat % (m : Int) = 1)).map fun k => 1 + ((k : Nat) : Int)
def ofOrd (m : Nat) (s : Int) (i : Nat) : List Int := ((List.range i).filter fun k => decide ((ordZ m (1 + ((k : Nat) : Int)) : Int) = s)).map fun k => 1 + ((k : Nat) : Int)
def rootsL (m : Nat) (s : Int) : List Int := if s < 1 ∨ ((m : Int) - 1) % s ≠ 0 then [] else (near m s).filter fun a => decide ((ordZ m a : Int) = s)
theorem ofOrd_succ {m : Nat} {s : Int} {i : Nat} : ofOrd m s (i + 1) = ofOrd m s i ++ if (ordZ m (1 + ((i : Nat) : Int)) : Int) = s then [1 + ((i : Nat) : Int)] else [] := by
  unfold ofOrd
  rw [List.range_succ, List.filter_append, List.map_append]
  congr 1
  by_cases h : (ordZ m (1 + ((i : Nat) : Int)) : Int) = s <;> simp [h]
theorem ofOrd_len (m : Nat) (s : Int) (i : Nat) : (ofOrd m s i).length ≤ i := by
  unfold ofOrd
  rw [List.length_map]
  exact Nat.le_trans (List.length_filter_le _ _) (by simp)
theorem rootsL_eq {m : Nat} {s : Int} (pr : Pr m) (le : m ≤ 997) : rootsL m s = ofOrd m s (m - 1) := by
  have p2 := pr.1
  unfold rootsL
  have ok : ∀ k ∈ List.range (m - 1), IsOrd m (1 + ((k : Nat) : Int)) (ordZ m (1 + ((k : Nat) : Int))) := fun k hk => ordZ_ok pr le (by omega) (by have := List.mem_range.mp hk; omega)
  by_cases h : s < 1 ∨ ((m : Int) - 1) % s ≠ 0
  · rw [if_pos h]
    unfold ofOrd
    rw [List.filter_eq_nil_iff.mpr]
    · rfl
    · intro k hk z
      have z : (ordZ m (1 + ((k : Nat) : Int)) : Int) = s := of_decide_eq_true z
      have o := ok k hk
      have d := o.dvd1 pr le (by omega) (by have := List.mem_range.mp hk; omega)
      have o1 := o.pos
      rw [← z] at h
      rcases h with h | h
      · omega
      · apply h
        have e : (m : Int) - 1 = ((m - 1 : Nat) : Int) := by omega
        rw [e, ← Int.natCast_emod, d]
        rfl
  · rw [if_neg h]
    unfold near ofOrd
    rw [List.filter_map, List.filter_filter]
    congr 1
    apply List.filter_congr
    intro k hk
    have o := ok k hk
    by_cases z : (ordZ m (1 + ((k : Nat) : Int)) : Int) = s
    · have e : s.toNat = ordZ m (1 + ((k : Nat) : Int)) := by omega
      have q := o.one
      rw [← e] at q
      simp [z, q]
    · simp [z]
end NT
namespace NT
def hasB (ps : List Nat) : Bool := ps.all fun p => (List.range p).all fun s => s == 0 || (p - 1) % s != 0 || (List.range (p - 1)).any fun k => ordN p (k + 1) == s
theorem has_14 : hasB (tab.take 14) = true := by decide +kernel
theorem has_ord {ps : List Nat} {p : Nat} {s : Int} (hb : hasB ps = true) (h : p ∈ ps) (h2 : 2 ≤ p) (h1 : ¬ s < 1) (hd : ¬ ((p : Int) - 1) % s ≠ 0) : 0 < (ofOrd p s (p - 1)).length := by
  have hd : ((p : Int) - 1) % s = 0 := by omega
  obtain ⟨n, rfl⟩ : ∃ n : Nat, s = n := ⟨s.toNat, by omega⟩
  have e : (p : Int) - 1 = ((p - 1 : Nat) : Int) := by omega
  rw [e, ← Int.natCast_emod] at hd
  have hd : (p - 1) % n = 0 := by omega
  have np : n < p := by
    have := Nat.le_of_dvd (by omega) (Nat.dvd_of_mod_eq_zero hd)
    omega
  unfold hasB at hb
  have q := List.all_eq_true.mp (List.all_eq_true.mp hb p h) n (List.mem_range.mpr np)
  rw [Bool.or_eq_true, Bool.or_eq_true] at q
  rcases q with (q | q) | q
  · have : n = 0 := by simpa using q
    omega
  · rw [hd] at q
    simp at q
  · obtain ⟨k, hk, z⟩ := List.any_eq_true.mp q
    have z : ordN p (k + 1) = n := by simpa using z
    unfold ofOrd
    rw [List.length_map]
    refine List.length_pos_of_mem (a := k) (List.mem_filter.mpr ⟨hk, decide_eq_true ?_⟩)
    have : ordZ p (1 + ((k : Nat) : Int)) = n := by
      unfold ordZ
      rw [show (1 + ((k : Nat) : Int)).toNat = k + 1 by omega, z]
    omega
end NT
namespace NT
open L2
/-- numbers to s without a part in common with it -/
def frees (s : Nat) : List Int := ((List.range s).filter fun k => decide (Nat.gcd (1 + ((k : Nat) : Int)).toNat s = 1)).map fun k => 1 + ((k : Nat) : Int)
def upB : List Int → Bool
  | [] => true
  | [_] => true
  | a :: b :: r => decide (a < b) && upB (b :: r)
def chk1 (p s : Nat) (R F N : List Int) (w : Int) : Bool :=
  (F.map fun k => w ^ k.toNat % (p : Int)).isPerm R && decide (w ^ s % (p : Int) = 1) && Nat.beq (distinct ((List.range (s + 1)).map fun k => w ^ k % (p : Int))).length s && ((List.range s).map fun k => w ^ k % (p : Int)).isPerm N
def chk0 (p s : Nat) (R F N : List Int) : Bool :=
  Nat.beq R.length F.length && Nat.ble 1 R.length && upB R && upB N && R.all fun w => chk1 p s R F N w
def chk (p s : Nat) : Bool := chk0 p s (ofOrd p s (p - 1)) (frees s) (near p s)
def chkAll (ps : List Nat) : Bool := ps.all fun p => (List.range 64).all fun k => !(Nat.beq ((p - 1) % (k + 1)) 0) || chk p (k + 1)
theorem chk_a : chkAll (tab.take 14) = true := by decide +kernel
theorem chk_b : chkAll [97] = true := by decide +kernel
theorem chk_c : chkAll [193] = true := by decide +kernel
theorem chk_d : chkAll [257] = true := by decide +kernel
theorem chkAll_append {a b : List Nat} (ha : chkAll a = true) (hb : chkAll b = true) : chkAll (a ++ b) = true := by
  unfold chkAll at *
  rw [List.all_append, ha, hb]
  rfl
theorem tab_17 : tab.take 17 = tab.take 14 ++ ([97] ++ ([193] ++ [257])) := by decide
theorem chk_17 : chkAll (tab.take 17) = true := by
  rw [tab_17]
  exact chkAll_append chk_a (chkAll_append chk_b (chkAll_append chk_c chk_d))
end NT
namespace S64
open PySem PyProof.Rows
abbrev SM := StateT SortSt Sem
def gallop' : Bool → Keyed → Array Keyed → Nat → Nat → Nat → SM (Option Nat) := sortPriv% PySem.Builtin.gallop
def far (left : Bool) (key : Keyed) (arr : Array Keyed) (at0 i : Nat) : SM (Option Bool) := do
  let x ← elem' arr (at0 + i)
  if left then lt' x key else return (← lt' key x).map (!·)
theorem gallop'_eq (left : Bool) (key : Keyed) (arr : Array Keyed) (at0 n h : Nat) : gallop' left key arr at0 n h = (do
  let mut o1 := 0
  let mut o2 := 1
  let mut l := 0
  let mut r := 0
  let some up ← far left key arr at0 h | return none
  if up then
    let top := n - h
    for _ in [0:n] do
      if o2 ≥ top then break
      let some u ← far left key arr at0 (h + o2) | return none
      if !u then break
      o1 := o2
      o2 := 2 * o2 + 1
    l := h + o1 + 1
    r := h + min o2 top
  else
    let top := h + 1
    for _ in [0:n] do
      if o2 ≥ top then break
      let some u ← far left key arr at0 (h - o2) | return none
      if u then break
      o1 := o2
      o2 := 2 * o2 + 1
    l := h + 1 - min o2 top
    r := h - o1
  for _ in [0:n] do
    if l ≥ r then break
    let m := l + (r - l) / 2
    let some u ← far left key arr at0 m | return none
    if u then l := m + 1 else r := m
  return some r) := rfl
section
variable {prog : Program} {w : World} {A : Around} {E : Value → Shared → Prop} {s : Shared}
theorem wpS_lt {st : SortSt} {x y : Keyed} {a b : Int} {t u : Tok} {Q : Option Bool → SortSt → Prop} (hk : kindOf st = oneType') (hx : x.1 = .int a t) (hy : y.1 = .int b u) (h : Q (some (decide (a < b))) st) : wpS (model prog w) A E s (lt' x y) Q st := by
  rw [lt'_eq]
  refine wpS_bind (wpS_get ?_)
  rw [hk, keyLt'_oneType, hx, hy]
  exact wpS_bind (wpS_lift (wpAny_attempt (oneLt_int ⟨rfl, wpS_pure h⟩)))
theorem ints_at {xs : Array Keyed} (h : IntKeys xs) {i : Nat} (hi : i < xs.size) : ∃ t, xs[i]? = some xs[i] ∧ xs[i].1 = .int (K xs i) t := by
  obtain ⟨n, t, e⟩ := h xs[i] (by simp)
  refine ⟨t, getElem?_pos xs i hi, ?_⟩
  rw [K_eq hi, e]
  rfl
theorem wpS_elem {st : SortSt} {xs : Array Keyed} {i : Nat} {Q : Keyed → SortSt → Prop} (hi : i < xs.size) (h : Q xs[i] st) : wpS (model prog w) A E s (elem' xs i) Q st := by
  rw [elem'_eq, getElem?_pos xs i hi]
  exact wpS_pure h
/-- what is sought: the places below the answer -/
def B (left : Bool) (k : Int) (arr : Array Keyed) (at0 i : Nat) : Bool := if left then decide (K arr (at0 + i) < k) else !decide (k < K arr (at0 + i))
theorem wpS_far {st : SortSt} {left : Bool} {key : Keyed} {arr : Array Keyed} {at0 i : Nat} {k : Int} {t : Tok} {Q : Option Bool → SortSt → Prop} (hk : kindOf st = oneType') (ha : IntKeys arr) (hy : key.1 = .int k t) (hi : at0 + i < arr.size)
    (h : Q (some (B left k arr at0 i)) st) : wpS (model prog w) A E s (far left key arr at0 i) Q st := by
  obtain ⟨u, _, e⟩ := ints_at ha hi
  unfold far
  refine wpS_bind (wpS_elem hi ?_)
  cases left with
  | true =>
    refine (show wpS _ _ _ _ (lt' _ _) _ _ from wpS_lt hk e hy ?_)
    exact h
  | false =>
    refine (show wpS _ _ _ _ (lt' _ _ >>= _) _ _ from wpS_bind (wpS_lt hk hy e ?_))
    exact wpS_pure h
end
end S64
namespace S64
open PySem PyProof.Rows
def binPart (left : Bool) (key : Keyed) (arr : Array Keyed) (at0 n l0 r0 : Nat) : SM (Option Nat) := do
  let mut l := l0
  let mut r := r0
  for _ in [0:n] do
    if l ≥ r then break
    let m := l + (r - l) / 2
    let some u ← far left key arr at0 m | return none
    if u then l := m + 1 else r := m
  return some r
section
variable {prog : Program} {w : World} {A : Around} {E : Value → Shared → Prop} {s : Shared}
variable {st : SortSt} {left : Bool} {key : Keyed} {arr : Array Keyed} {at0 n : Nat} {k : Int} {t : Tok} {Q : Option Nat → SortSt → Prop}
theorem wpS_bin {l0 r0 : Nat} (hk : kindOf st = oneType') (ha : IntKeys arr) (hy : key.1 = .int k t) (hn : at0 + n ≤ arr.size)
    (mono : ∀ i j, i ≤ j → j < n → B left k arr at0 j = true → B left k arr at0 i = true) (hlr : l0 ≤ r0) (hr : r0 ≤ n) (h1 : ∀ i, i < l0 → B left k arr at0 i = true) (h2 : ∀ i, r0 ≤ i → i < n → B left k arr at0 i = false)
    (hQ : ∀ r, r ≤ n → (∀ i, i < r → B left k arr at0 i = true) → (∀ i, r ≤ i → i < n → B left k arr at0 i = false) → Q (some r) st) : wpS (model prog w) A E s (binPart left key arr at0 n l0 r0) Q st := by
  unfold binPart
  refine wpS_bind (wpS_mono (wpS_forRange
    (I := fun x c st' => st' = st ∧ ∃ l r, c = (none, l, r) ∧ l ≤ r ∧ r ≤ n ∧ r - l ≤ n - x ∧ (∀ i, i < l → B left k arr at0 i = true) ∧ ∀ i, r ≤ i → i < n → B left k arr at0 i = false)
    (Q := fun c st' => st' = st ∧ ∃ r, c = (none, r, r) ∧ r ≤ n ∧ (∀ i, i < r → B left k arr at0 i = true) ∧ ∀ i, r ≤ i → i < n → B left k arr at0 i = false) ?step ?fin ⟨rfl, l0, r0, rfl, hlr, hr, by omega, h1, h2⟩) ?post)
  case step =>
    rintro x c st' _ hx ⟨rfl, l, r, rfl, a1, a2, a3, a4, a5⟩
    dsimp only
    by_cases hge : l ≥ r
    · rw [if_pos hge]
      have e : l = r := by omega
      subst e
      exact wpS_pure ⟨rfl, l, rfl, a2, a4, a5⟩
    · rw [if_neg hge]
      refine wpS_bind (wpS_far hk ha hy (by omega) ?_)
      dsimp only
      cases hb : B left k arr at0 (l + (r - l) / 2) with
      | true =>
        rw [if_pos rfl]
        exact wpS_pure ⟨rfl, _, r, rfl, by omega, a2, by omega, fun i hi => mono i _ (by omega) (by omega) hb, a5⟩
      | false =>
        rw [if_neg (by decide)]
        refine wpS_pure ⟨rfl, l, _, rfl, by omega, by omega, by omega, a4, fun i hi hi2 => ?_⟩
        cases hc : B left k arr at0 i with
        | false => rfl
        | true =>
          have := mono _ i hi hi2 hc
          rw [hb] at this
          cases this
  case fin =>
    rintro c st' ⟨rfl, l, r, rfl, a1, a2, a3, a4, a5⟩
    have e : l = r := by omega
    subst e
    exact ⟨rfl, l, rfl, a2, a4, a5⟩
  case post =>
    rintro c st' ⟨rfl, r, rfl, a2, a4, a5⟩
    exact wpS_pure (hQ r a2 a4 a5)
theorem wpS_gallop {h : Nat} (hk : kindOf st = oneType') (ha : IntKeys arr) (hy : key.1 = .int k t) (hn : at0 + n ≤ arr.size) (hh : h < n)
    (mono : ∀ i j, i ≤ j → j < n → B left k arr at0 j = true → B left k arr at0 i = true)
    (hQ : ∀ r, r ≤ n → (∀ i, i < r → B left k arr at0 i = true) → (∀ i, r ≤ i → i < n → B left k arr at0 i = false) → Q (some r) st) : wpS (model prog w) A E s (gallop' left key arr at0 n h) Q st := by
  rw [gallop'_eq]
  refine wpS_bind (wpS_far hk ha hy (by omega) ?_)
  dsimp only
  have anti : ∀ i j, i ≤ j → j < n → B left k arr at0 i = false → B left k arr at0 j = false := fun i j hij hj hb => by
    cases hc : B left k arr at0 j with
    | false => rfl
    | true =>
      have := mono i j hij hj hc
      rw [hb] at this
      cases this
  cases hb : B left k arr at0 h with
  | true =>
    rw [if_pos rfl]
    refine wpS_bind (wpS_mono (wpS_forRange
      (I := fun x c st' => st' = st ∧ ∃ o1 o2, c = (none, o1, o2) ∧ h + o1 < n ∧ o1 < o2 ∧ x < o2 ∧ B left k arr at0 (h + o1) = true)
      (Q := fun c st' => st' = st ∧ ∃ o1 o2, c = (none, o1, o2) ∧ h + o1 < n ∧ o1 < o2 ∧ B left k arr at0 (h + o1) = true ∧ (n - h ≤ o2 ∨ h + o2 < n ∧ B left k arr at0 (h + o2) = false)) ?step ?fin ⟨rfl, 0, 1, rfl, hh, by decide, by decide, hb⟩) ?post)
    case step =>
      rintro x c st' _ hx ⟨rfl, o1, o2, rfl, a1, a2, a3, a4⟩
      dsimp only
      by_cases hge : o2 ≥ n - h
      · rw [if_pos hge]
        exact wpS_pure ⟨rfl, o1, o2, rfl, a1, a2, a4, .inl hge⟩
      · rw [if_neg hge]
        refine wpS_bind (wpS_far hk ha hy (by omega) ?_)
        dsimp only
        cases hc : B left k arr at0 (h + o2) with
        | false =>
          rw [if_pos (by decide)]
          exact wpS_pure ⟨rfl, o1, o2, rfl, a1, a2, a4, .inr ⟨by omega, hc⟩⟩
        | true =>
          rw [if_neg (by decide)]
          exact wpS_pure ⟨rfl, o2, _, rfl, by omega, by omega, by omega, hc⟩
    case fin =>
      rintro c st' ⟨rfl, o1, o2, rfl, a1, a2, a3, a4⟩
      exact ⟨rfl, o1, o2, rfl, a1, a2, a4, .inl (by omega)⟩
    case post =>
      rintro c st' ⟨rfl, o1, o2, rfl, a1, a2, a4, a5⟩
      refine wpS_bin (l0 := h + o1 + 1) (r0 := h + min o2 (n - h)) hk ha hy hn mono (by omega) (by omega) (fun i hi => mono i _ (by omega) a1 a4) (fun i hi hi2 => ?_) hQ
      rcases a5 with y | ⟨y, z⟩
      · omega
      · exact anti _ i (by omega) hi2 z
  | false =>
    rw [if_neg (by decide)]
    refine wpS_bind (wpS_mono (wpS_forRange
      (I := fun x c st' => st' = st ∧ ∃ o1 o2, c = (none, o1, o2) ∧ o1 ≤ h ∧ o1 < o2 ∧ x < o2 ∧ B left k arr at0 (h - o1) = false)
      (Q := fun c st' => st' = st ∧ ∃ o1 o2, c = (none, o1, o2) ∧ o1 ≤ h ∧ o1 < o2 ∧ B left k arr at0 (h - o1) = false ∧ (h + 1 ≤ o2 ∨ o2 ≤ h ∧ B left k arr at0 (h - o2) = true)) ?step ?fin ⟨rfl, 0, 1, rfl, by omega, by decide, by decide, hb⟩) ?post)
    case step =>
      rintro x c st' _ hx ⟨rfl, o1, o2, rfl, a1, a2, a3, a4⟩
      dsimp only
      by_cases hge : o2 ≥ h + 1
      · rw [if_pos hge]
        exact wpS_pure ⟨rfl, o1, o2, rfl, a1, a2, a4, .inl hge⟩
      · rw [if_neg hge]
        refine wpS_bind (wpS_far hk ha hy (by omega) ?_)
        dsimp only
        cases hc : B left k arr at0 (h - o2) with
        | true =>
          rw [if_pos rfl]
          exact wpS_pure ⟨rfl, o1, o2, rfl, a1, a2, a4, .inr ⟨by omega, hc⟩⟩
        | false =>
          rw [if_neg (by decide)]
          exact wpS_pure ⟨rfl, o2, _, rfl, by omega, by omega, by omega, hc⟩
    case fin =>
      rintro c st' ⟨rfl, o1, o2, rfl, a1, a2, a3, a4⟩
      exact ⟨rfl, o1, o2, rfl, a1, a2, a4, .inl (by omega)⟩
    case post =>
      rintro c st' ⟨rfl, o1, o2, rfl, a1, a2, a4, a5⟩
      refine wpS_bin (l0 := h + 1 - min o2 (h + 1)) (r0 := h - o1) hk ha hy hn mono (by omega) (by omega) (fun i hi => ?_) (fun i hi hi2 => anti _ i hi hi2 a4) hQ
      rcases a5 with y | ⟨y, z⟩
      · omega
      · exact mono i _ (by omega) (by omega) z
end
end S64
namespace S64
open PySem PyProof.Rows
def setMinGallop' : Nat → SM Unit := sortPriv% PySem.Builtin.setMinGallop
def mergeLo' : Array Keyed → Array Keyed → SM (Array Keyed) := sortPriv% PySem.Builtin.mergeLo
def mergeHi' : Array Keyed → Array Keyed → SM (Array Keyed) := sortPriv% PySem.Builtin.mergeHi
abbrev setG (st : SortSt) (v : Nat) : SortSt := SortSt.mk' (kindOf st) (arrOf st) (pendingOf st) v (failedOf st)
theorem setMinGallop'_eq (v : Nat) : setMinGallop' v = modify fun st => setG st v := rfl
theorem mergeLo'_eq (a b : Array Keyed) : mergeLo' a b = (do
  rule "list.sort.merge-lo"
  let all := a.size + b.size
  let endA (o : Array Keyed) (i j : Nat) := o ++ a.extract i a.size ++ b.extract j b.size
  let endB (o : Array Keyed) (i j : Nat) := o ++ b.extract j b.size ++ a.extract i a.size
  let mut o : Array Keyed := #[← elem' b 0]
  let mut i := 0
  let mut j := 1
  if j == b.size then return endA o i j
  if i + 1 == a.size then return endB o i j
  let mut mg := gallopOf (← get)
  for _ in [0:all] do
    let mut ca := 0
    let mut cb := 0
    for _ in [0:all] do
      let some bl ← lt' (← elem' b j) (← elem' a i) | return endA o i j
      if bl then
        o := o.push (← elem' b j); j := j + 1; cb := cb + 1; ca := 0
        if j == b.size then return endA o i j
        if cb ≥ mg then break
      else
        o := o.push (← elem' a i); i := i + 1; ca := ca + 1; cb := 0
        if i + 1 == a.size then return endB o i j
        if ca ≥ mg then break
    rule "list.sort.gallop"
    mg := mg + 1
    for _ in [0:all] do
      if mg > 1 then mg := mg - 1
      setMinGallop' mg
      let some k ← gallop' false (← elem' b j) a i (a.size - i) 0 | return endA o i j
      ca := k
      if k > 0 then
        o := o ++ a.extract i (i + k); i := i + k
        if i + 1 == a.size then return endB o i j
        if i == a.size then return endA o i j
      o := o.push (← elem' b j); j := j + 1
      if j == b.size then return endA o i j
      let some k ← gallop' true (← elem' a i) b j (b.size - j) 0 | return endA o i j
      cb := k
      if k > 0 then
        o := o ++ b.extract j (j + k); j := j + k
        if j == b.size then return endA o i j
      o := o.push (← elem' a i); i := i + 1
      if i + 1 == a.size then return endB o i j
      if ca < 7 && cb < 7 then break
    mg := mg + 1
    setMinGallop' mg
  unsupported "internal:list.sort.merge-bound") := rfl
end S64
namespace S64
open PySem PyProof.Rows
abbrev kv (x : Keyed) : Int := numOf x.1
def mer (u v : List Keyed) : List Keyed := List.merge u v (fun x y => decide (kv x ≤ kv y))
theorem mer_nil (v : List Keyed) : mer [] v = v := by unfold mer; rw [List.nil_merge]
theorem nil_mer (u : List Keyed) : mer u [] = u := by unfold mer; rw [List.merge_right]
theorem mer_l {x y : Keyed} {u v : List Keyed} (h : kv x ≤ kv y) : mer (x :: u) (y :: v) = x :: mer u (y :: v) := by
  unfold mer
  rw [List.cons_merge_cons, if_pos (decide_eq_true h)]
theorem mer_r {x y : Keyed} {u v : List Keyed} (h : kv y < kv x) : mer (x :: u) (y :: v) = y :: mer (x :: u) v := by
  unfold mer
  rw [List.cons_merge_cons, if_neg (by simpa using h)]
theorem mer_run : ∀ (r u : List Keyed) (y : Keyed) (v : List Keyed), (∀ x ∈ r, kv x ≤ kv y) → mer (r ++ u) (y :: v) = r ++ mer u (y :: v)
  | [], _, _, _, _ => rfl
  | x :: r, u, y, v, h => by
    rw [List.cons_append, mer_l (h x (.head _)), mer_run r u y v (fun z hz => h z (.tail _ hz)), List.cons_append]
theorem run_mer : ∀ (r v : List Keyed) (x : Keyed) (u : List Keyed), (∀ y ∈ r, kv y < kv x) → mer (x :: u) (r ++ v) = r ++ mer (x :: u) v
  | [], _, _, _, _ => rfl
  | y :: r, v, x, u, h => by
    rw [List.cons_append, mer_r (h y (.head _)), run_mer r v x u (fun z hz => h z (.tail _ hz)), List.cons_append]
/-- from the back: the last of the second -/
theorem mer_lastR (y : Keyed) : ∀ (u v : List Keyed), (∀ x ∈ u, kv x ≤ kv y) → mer u (v ++ [y]) = mer u v ++ [y]
  | [], v, _ => by rw [mer_nil, mer_nil]
  | x :: u, [], h => by
    have := mer_run (x :: u) [] y [] h
    rw [List.append_nil, mer_nil] at this
    rw [List.nil_append, this, nil_mer]
  | x :: u, z :: v, h => by
    by_cases c : kv x ≤ kv z
    · rw [List.cons_append, mer_l c, mer_l c, List.cons_append, ← mer_lastR y u (z :: v) (fun q hq => h q (.tail _ hq)), List.cons_append]
    · have c : kv z < kv x := by omega
      rw [List.cons_append, mer_r c, mer_r c, List.cons_append, mer_lastR y (x :: u) v h]
theorem mer_lastL (x : Keyed) : ∀ (u v : List Keyed), (∀ y ∈ v, kv y < kv x) → mer (u ++ [x]) v = mer u v ++ [x]
  | u, [], _ => by rw [nil_mer, nil_mer]
  | [], y :: v, h => by
    have := run_mer (y :: v) [] x [] h
    rw [List.append_nil, nil_mer] at this
    rw [List.nil_append, this, mer_nil]
  | z :: u, y :: v, h => by
    by_cases c : kv z ≤ kv y
    · rw [List.cons_append, mer_l c, mer_l c, List.cons_append, mer_lastL x u (y :: v) h]
    · have c : kv y < kv z := by omega
      rw [List.cons_append, mer_r c, mer_r c, List.cons_append, ← mer_lastL x (z :: u) v (fun q hq => h q (.tail _ hq)), List.cons_append]
theorem mer_runR : ∀ (r u v : List Keyed), (∀ x ∈ u, ∀ y ∈ r, kv x ≤ kv y) → mer u (v ++ r) = mer u v ++ r
  | [], u, v, _ => by rw [List.append_nil, List.append_nil]
  | y :: r, u, v, h => by
    have e : v ++ y :: r = (v ++ [y]) ++ r := by rw [List.append_assoc]; rfl
    rw [e, mer_runR r u (v ++ [y]) (fun x hx z hz => h x hx z (.tail _ hz)), mer_lastR y u v (fun x hx => h x hx y (.head _)), List.append_assoc]
    rfl
theorem mer_runL : ∀ (r u v : List Keyed), (∀ y ∈ v, ∀ x ∈ r, kv y < kv x) → mer (u ++ r) v = mer u v ++ r
  | [], u, v, _ => by rw [List.append_nil, List.append_nil]
  | x :: r, u, v, h => by
    have e : u ++ x :: r = (u ++ [x]) ++ r := by rw [List.append_assoc]; rfl
    rw [e, mer_runL r (u ++ [x]) v (fun y hy z hz => h y hy z (.tail _ hz)), mer_lastL x u v (fun y hy => h y hy x (.head _)), List.append_assoc]
    rfl
theorem mer_perm (u v : List Keyed) : (mer u v).Perm (u ++ v) := List.merge_perm_append ..
theorem mer_sorted {u v : List Keyed} (hu : u.Pairwise fun x y => kv x ≤ kv y) (hv : v.Pairwise fun x y => kv x ≤ kv y) : (mer u v).Pairwise fun x y => kv x ≤ kv y := by
  have tr : ∀ a b c : Keyed, (decide (kv a ≤ kv b)) = true → (decide (kv b ≤ kv c)) = true → (decide (kv a ≤ kv c)) = true := fun a b c h1 h2 =>
    decide_eq_true (Int.le_trans (of_decide_eq_true h1) (of_decide_eq_true h2))
  have tot : ∀ a b : Keyed, (decide (kv a ≤ kv b) || decide (kv b ≤ kv a)) = true := fun a b => by
    rcases Int.le_total (kv a) (kv b) with h | h <;> simp [h]
  have := List.pairwise_merge (le := fun x y => decide (kv x ≤ kv y)) tr tot u v (hu.imp fun h => decide_eq_true h) (hv.imp fun h => decide_eq_true h)
  exact this.imp fun h => of_decide_eq_true h
theorem kv_at {xs : Array Keyed} {i : Nat} (h : i < xs.size) : kv xs[i] = K xs i := by
  unfold K
  rw [getElem?_pos xs i h]
theorem drop_at {xs : Array Keyed} {i : Nat} (h : i < xs.size) : xs.toList.drop i = xs[i] :: xs.toList.drop (i + 1) := by
  rw [List.drop_eq_getElem_cons (by simpa using h)]
  simp
theorem ext_list (xs : Array Keyed) (i j : Nat) : (xs.extract i j).toList = (xs.toList.drop i).take (j - i) := by
  simp [List.extract]
theorem ext_split (xs : Array Keyed) (i k : Nat) : xs.toList.drop i = (xs.extract i (i + k)).toList ++ xs.toList.drop (i + k) := by
  rw [ext_list, Nat.add_sub_cancel_left, ← List.drop_drop, List.take_append_drop]
theorem ext_mem {xs : Array Keyed} {i k : Nat} {x : Keyed} (h : x ∈ (xs.extract i (i + k)).toList) : ∃ t, t < k ∧ i + t < xs.size ∧ kv x = K xs (i + t) := by
  rw [ext_list, Nat.add_sub_cancel_left] at h
  obtain ⟨t, ht, rfl⟩ := List.mem_iff_getElem.mp h
  rw [List.length_take, List.length_drop] at ht
  have e : xs.toList.length = xs.size := Array.length_toList
  refine ⟨t, by omega, by omega, ?_⟩
  rw [List.getElem_take, List.getElem_drop, ← kv_at (by omega)]
  simp
/-- what is out, and what is left, make the whole -/
def ME (a b : Array Keyed) (T : List Keyed) (o : Array Keyed) (i j : Nat) : Prop := o.toList ++ mer (a.toList.drop i) (b.toList.drop j) = T
section
variable {a b : Array Keyed} {T : List Keyed} {o : Array Keyed} {i j : Nat}
theorem ME.pushB (h : ME a b T o i j) (hi : i < a.size) (hj : j < b.size) (c : K b j < K a i) : ME a b T (o.push b[j]) i (j + 1) := by
  unfold ME at h ⊢
  rw [drop_at hi, drop_at hj, mer_r (by rw [kv_at, kv_at]; exact c), ← drop_at hi] at h
  rw [Array.toList_push, List.append_assoc]
  exact h
theorem ME.pushA (h : ME a b T o i j) (hi : i < a.size) (hj : j < b.size) (c : K a i ≤ K b j) : ME a b T (o.push a[i]) (i + 1) j := by
  unfold ME at h ⊢
  rw [drop_at hi, drop_at hj, mer_l (by rw [kv_at, kv_at]; exact c), ← drop_at hj] at h
  rw [Array.toList_push, List.append_assoc]
  exact h
theorem ME.appA {k : Nat} (h : ME a b T o i j) (hj : j < b.size) (c : ∀ t, t < k → K a (i + t) ≤ K b j) : ME a b T (o ++ a.extract i (i + k)) (i + k) j := by
  unfold ME at h ⊢
  rw [ext_split a i k, drop_at hj, mer_run _ _ _ _ (fun x hx => by
    obtain ⟨t, h1, h2, e⟩ := ext_mem hx
    rw [e, kv_at hj]
    exact c t h1), ← drop_at hj] at h
  rw [Array.toList_append, List.append_assoc]
  exact h
theorem ME.appB {k : Nat} (h : ME a b T o i j) (hi : i < a.size) (c : ∀ t, t < k → K b (j + t) < K a i) : ME a b T (o ++ b.extract j (j + k)) i (j + k) := by
  unfold ME at h ⊢
  rw [ext_split b j k, drop_at hi, run_mer _ _ _ _ (fun x hx => by
    obtain ⟨t, h1, h2, e⟩ := ext_mem hx
    rw [e, kv_at hi]
    exact c t h1), ← drop_at hi] at h
  rw [Array.toList_append, List.append_assoc]
  exact h
theorem ext_all (xs : Array Keyed) (i : Nat) : (xs.extract i xs.size).toList = xs.toList.drop i := by
  rw [ext_list, List.take_of_length_le (by simp)]
theorem ME.endA (h : ME a b T o i j) (c : j = b.size ∨ i = a.size) : (o ++ a.extract i a.size ++ b.extract j b.size).toList = T := by
  unfold ME at h
  rw [Array.toList_append, Array.toList_append, ext_all, ext_all, ← h, List.append_assoc]
  rcases c with rfl | rfl
  · rw [List.drop_of_length_le (l := b.toList) (by simp), nil_mer, List.append_nil]
  · rw [List.drop_of_length_le (l := a.toList) (by simp), mer_nil, List.nil_append]
theorem ME.endB (h : ME a b T o i j) (c : i + 1 = a.size) (d : ∀ t, t < b.size → K b t < K a i) : (o ++ b.extract j b.size ++ a.extract i a.size).toList = T := by
  unfold ME at h
  have hi : i < a.size := by omega
  rw [Array.toList_append, Array.toList_append, ext_all, ext_all, ← h, List.append_assoc, drop_at hi, List.drop_of_length_le (l := a.toList) (by simp; omega)]
  have := run_mer (b.toList.drop j) [] a[i] [] (fun x hx => by
    obtain ⟨t, ht, rfl⟩ := List.mem_iff_getElem.mp hx
    rw [List.length_drop, Array.length_toList] at ht
    rw [List.getElem_drop, kv_at hi]
    have := d (j + t) (by omega)
    rw [← kv_at (by omega)] at this
    simpa using this)
  rw [List.append_nil, nil_mer] at this
  rw [this]
end
end S64
namespace S64
open PySem PyProof.Rows
abbrev St7 := Option (Array Keyed) × Array Keyed × Nat × Nat × Nat × Nat × Nat
def lastL (a b o : Array Keyed) (i j mg ca cb : Nat) : SM (ForInStep St7) := do
  let z ← elem' a i
  if i + 1 + 1 == a.size then pure (.done (some (o.push z ++ b.extract j b.size ++ a.extract (i + 1) a.size), o.push z, i + 1, j, mg, ca, cb))
  else if ca < 7 && cb < 7 then pure (.done (none, o.push z, i + 1, j, mg, ca, cb))
  else pure (.yield (none, o.push z, i + 1, j, mg, ca, cb))
def tailL (a b o : Array Keyed) (i j mg ca cb : Nat) : SM (ForInStep St7) := do
  let x ← elem' b j
  if j + 1 == b.size then pure (.done (some (o.push x ++ a.extract i a.size ++ b.extract (j + 1) b.size), o.push x, i, j + 1, mg, ca, cb))
  else do
    let y ← elem' a i
    let g ← gallop' true y b (j + 1) (b.size - (j + 1)) 0
    match g with
    | some k =>
      if k > 0 then
        if j + 1 + k == b.size then
          pure (.done (some (o.push x ++ b.extract (j + 1) (j + 1 + k) ++ a.extract i a.size ++ b.extract (j + 1 + k) b.size), o.push x ++ b.extract (j + 1) (j + 1 + k), i, j + 1 + k, mg, ca, k))
        else lastL a b (o.push x ++ b.extract (j + 1) (j + 1 + k)) i (j + 1 + k) mg ca k
      else lastL a b (o.push x) i (j + 1) mg ca k
    | _ => pure (.done (some (o.push x ++ a.extract i a.size ++ b.extract (j + 1) b.size), o.push x, i, j + 1, mg, ca, cb))
def Good (a b : Array Keyed) (T : List Keyed) (n : Nat) (r : Option (Array Keyed)) (o : Array Keyed) (i j : Nat) : Prop := match r with
  | some r => r.toList = T
  | none => i + 1 < a.size ∧ j < b.size ∧ n ≤ i + j ∧ ME a b T o i j
section
variable {prog : Program} {w : World} {A : Around} {E : Value → Shared → Prop} {s : Shared}
variable {st : SortSt} {a b : Array Keyed} {T : List Keyed} {n : Nat}
def Q7 (a b : Array Keyed) (T : List Keyed) (st : SortSt) (n : Nat) (r : ForInStep St7) (st' : SortSt) : Prop := match r with
  | .done c => (∃ v, st' = setG st v) ∧ Good a b T n c.1 c.2.1 c.2.2.1 c.2.2.2.1
  | .yield c => (∃ v, st' = setG st v) ∧ c.1 = none ∧ Good a b T n c.1 c.2.1 c.2.2.1 c.2.2.2.1
theorem wpS_lastL {o : Array Keyed} {i j mg ca cb v : Nat} (h2 : ∀ t, t < b.size → K b t < K a (a.size - 1)) (m : ME a b T o i j) (hi : i + 1 < a.size) (hj : j < b.size) (hn : n ≤ i + j) (c : K a i ≤ K b j) :
    wpS (model prog w) A E s (lastL a b o i j mg ca cb) (Q7 a b T st n) (setG st v) := by
  unfold lastL
  refine wpS_bind (wpS_elem (by omega) ?_)
  have m2 := m.pushA (by omega) hj c
  split
  · rename_i d
    have d : i + 1 + 1 = a.size := by simpa using d
    refine wpS_pure ⟨⟨v, rfl⟩, m2.endB d (fun t ht => ?_)⟩
    have := h2 t ht
    rwa [← d] at this
  · rename_i d
    have d : ¬ i + 1 + 1 = a.size := by simpa using d
    have d1 : i + 1 + 1 < a.size := by omega
    have d2 : n ≤ i + 1 + j := by omega
    split
    · exact wpS_pure ⟨⟨v, rfl⟩, d1, hj, d2, m2⟩
    · exact wpS_pure ⟨⟨v, rfl⟩, rfl, d1, hj, d2, m2⟩
theorem B_true {k : Int} {arr : Array Keyed} {at0 i : Nat} : B true k arr at0 i = decide (K arr (at0 + i) < k) := rfl
theorem B_false {k : Int} {arr : Array Keyed} {at0 i : Nat} : B false k arr at0 i = !decide (k < K arr (at0 + i)) := rfl
theorem monoT {k : Int} {arr : Array Keyed} {at0 n : Nat} (sb : SortedTo arr arr.size) (h : at0 + n ≤ arr.size) : ∀ i j, i ≤ j → j < n → B true k arr at0 j = true → B true k arr at0 i = true := by
  intro i j hij hj c
  rw [B_true] at c ⊢
  have c := of_decide_eq_true c
  exact decide_eq_true (Int.lt_of_le_of_lt (sb _ _ (by omega) (by omega)) c)
theorem monoF {k : Int} {arr : Array Keyed} {at0 n : Nat} (sb : SortedTo arr arr.size) (h : at0 + n ≤ arr.size) : ∀ i j, i ≤ j → j < n → B false k arr at0 j = true → B false k arr at0 i = true := by
  intro i j hij hj c
  rw [B_false] at c ⊢
  have c := of_decide_eq_false (by simpa using c : decide (k < K arr (at0 + j)) = false)
  have := sb (at0 + i) (at0 + j) (by omega) (by omega)
  have : ¬ k < K arr (at0 + i) := by omega
  simp [this]
/-- galloping with the answer said in numbers -/
theorem wpS_gallT {st : SortSt} {key : Keyed} {arr : Array Keyed} {at0 n h : Nat} {k : Int} {t : Tok} {Q : Option Nat → SortSt → Prop} (hk : kindOf st = oneType') (ha : IntKeys arr) (hy : key.1 = .int k t) (sb : SortedTo arr arr.size) (hn : at0 + n ≤ arr.size) (hh : h < n)
    (hQ : ∀ r, r ≤ n → (∀ i, i < r → K arr (at0 + i) < k) → (∀ i, r ≤ i → i < n → k ≤ K arr (at0 + i)) → Q (some r) st) : wpS (model prog w) A E s (gallop' true key arr at0 n h) Q st := by
  refine wpS_gallop hk ha hy hn hh (monoT sb hn) fun r h1 h2 h3 => hQ r h1 (fun i hi => ?_) (fun i hi hi2 => ?_)
  · exact of_decide_eq_true (h2 i hi)
  · exact Int.not_lt.mp (of_decide_eq_false (h3 i hi hi2))
theorem wpS_gallF {st : SortSt} {key : Keyed} {arr : Array Keyed} {at0 n h : Nat} {k : Int} {t : Tok} {Q : Option Nat → SortSt → Prop} (hk : kindOf st = oneType') (ha : IntKeys arr) (hy : key.1 = .int k t) (sb : SortedTo arr arr.size) (hn : at0 + n ≤ arr.size) (hh : h < n)
    (hQ : ∀ r, r ≤ n → (∀ i, i < r → K arr (at0 + i) ≤ k) → (∀ i, r ≤ i → i < n → k < K arr (at0 + i)) → Q (some r) st) : wpS (model prog w) A E s (gallop' false key arr at0 n h) Q st := by
  refine wpS_gallop hk ha hy hn hh (monoF sb hn) fun r h1 h2 h3 => hQ r h1 (fun i hi => ?_) (fun i hi hi2 => ?_)
  · have := h2 i hi
    rw [B_false] at this
    exact Int.not_lt.mp (of_decide_eq_false (by simpa using this))
  · have := h3 i hi hi2
    rw [B_false] at this
    exact of_decide_eq_true (by simpa using this)
theorem wpS_tailL {o : Array Keyed} {i j mg ca cb v : Nat} (hk : kindOf st = oneType') (ha : IntKeys a) (hb : IntKeys b) (sb : SortedTo b b.size) (h2 : ∀ t, t < b.size → K b t < K a (a.size - 1))
    (m : ME a b T o i j) (hi : i + 1 < a.size) (hj : j < b.size) (hn : n ≤ i + j) (c : K b j < K a i) :
    wpS (model prog w) A E s (tailL a b o i j mg ca cb) (Q7 a b T st n) (setG st v) := by
  unfold tailL
  refine wpS_bind (wpS_elem hj ?_)
  have m2 := m.pushB (by omega) hj c
  split
  · rename_i d
    have d : j + 1 = b.size := by simpa using d
    exact wpS_pure ⟨⟨v, rfl⟩, m2.endA (.inl d)⟩
  · rename_i d
    have d : ¬ j + 1 = b.size := by simpa using d
    obtain ⟨t, _, e⟩ := ints_at ha (show i < a.size by omega)
    refine wpS_bind (wpS_elem (by omega) (wpS_bind (wpS_gallT (st := setG st v) hk hb e sb (by omega) (by omega) fun k g1 g2 g3 => ?_)))
    dsimp only
    have m3 := m2.appB (k := k) (by omega) g2
    split
    · split
      · rename_i d2
        have d2 : j + 1 + k = b.size := by simpa using d2
        exact wpS_pure ⟨⟨v, rfl⟩, m3.endA (.inl d2)⟩
      · rename_i d2
        have d2 : ¬ j + 1 + k = b.size := by simpa using d2
        exact wpS_lastL h2 m3 hi (by omega) (by omega) (g3 k (by omega) (by omega))
    · have k0 : k = 0 := by omega
      subst k0
      exact wpS_lastL h2 m2 hi (by omega) (by omega) (g3 0 (by omega) (by omega))
end
end S64
namespace S64
open PySem PyProof.Rows
abbrev St6 := Option (Array Keyed) × Array Keyed × Nat × Nat × Nat × Nat
abbrev St5 := Option (Array Keyed) × Array Keyed × Nat × Nat × Nat
section
variable {prog : Program} {w : World} {A : Around} {E : Value → Shared → Prop} {s : Shared}
theorem wpS_ite {α : Type} {c : Prop} [Decidable c] {x y : SM α} {Q : α → SortSt → Prop} {st : SortSt} {M : Model} (h1 : c → wpS M A E s x Q st) (h2 : ¬ c → wpS M A E s y Q st) : wpS M A E s (if c then x else y) Q st := by
  by_cases h : c
  · rw [if_pos h]; exact h1 h
  · rw [if_neg h]; exact h2 h
theorem wpS_mergeLo {st : SortSt} {a b : Array Keyed} {Q : Array Keyed → SortSt → Prop} (hk : kindOf st = oneType') (ha : IntKeys a) (hb : IntKeys b) (sa : SortedTo a a.size) (sb : SortedTo b b.size)
    (a0 : 0 < a.size) (b0 : 0 < b.size) (h1 : K b 0 < K a 0) (h2 : ∀ t, t < b.size → K b t < K a (a.size - 1))
    (hQ : ∀ r v, r.toList = mer a.toList b.toList → Q r (setG st v)) : wpS (model prog w) A E s (mergeLo' a b) Q st := by
  rw [mergeLo'_eq]
  refine wpS_bind (wpS_lift (wpAny_rule ⟨rfl, ?_⟩))
  refine wpS_bind (wpS_elem b0 ?_)
  obtain ⟨T, hT⟩ : ∃ T, T = mer a.toList b.toList := ⟨_, rfl⟩
  rw [← hT] at hQ
  have m0 : ME a b T #[b[0]] 0 1 := by
    have := ME.pushB (a := a) (b := b) (T := mer a.toList b.toList) (o := #[]) (i := 0) (j := 0) rfl a0 b0 h1
    rw [hT]
    exact this
  dsimp only
  by_cases c1 : 1 = b.size
  · rw [if_pos (by simpa using c1)]
    exact wpS_pure (hQ _ (gallopOf st) (m0.endA (.inl c1)))
  rw [if_neg (by simpa using c1)]
  by_cases c2 : 0 + 1 = a.size
  · rw [if_pos (by simpa using c2)]
    exact wpS_pure (hQ _ (gallopOf st) (m0.endB c2 (fun t ht => by have := h2 t ht; rwa [← c2] at this)))
  rw [if_neg (by simpa using c2)]
  refine wpS_bind (wpS_get ?_)
  refine wpS_bind (wpS_mono (wpS_forRange
    (I := fun x (c : St5) st' => (∃ v, st' = setG st v) ∧ c.1 = none ∧ Good a b T (x + 1) c.1 c.2.1 c.2.2.1 c.2.2.2.1)
    (Q := fun (c : St5) st' => (∃ v, st' = setG st v) ∧ ∃ r, c.1 = some r ∧ r.toList = T) ?step ?fin ⟨⟨gallopOf st, rfl⟩, rfl, (by show 0 + 1 < a.size; omega), (by show 1 < b.size; omega), Nat.le_refl 1, m0⟩) ?post)
  case post =>
    rintro ⟨r, o, i, j, mg⟩ st' ⟨⟨v, rfl⟩, r', e, hr⟩
    cases e
    exact wpS_pure (hQ _ v hr)
  case fin =>
    rintro ⟨r, o, i, j, mg⟩ st' ⟨_, e, g⟩
    cases e
    obtain ⟨g1, g2, g3, _⟩ := g
    omega
  case step =>
    rintro x ⟨r, o, i, j, mg⟩ st' _ hx ⟨⟨v, rfl⟩, e, g⟩
    cases e
    refine wpS_bind (wpS_mono (wpS_forRange
      (I := fun y (c : St6) st' => st' = setG st v ∧ c.1 = none ∧ Good a b T (x + 1 + y) c.1 c.2.1 c.2.2.1 c.2.2.2.1)
      (Q := fun (c : St6) st' => st' = setG st v ∧ Good a b T (x + 1 + 1) c.1 c.2.1 c.2.2.1 c.2.2.2.1) ?step1 ?fin1 ⟨rfl, rfl, g⟩) ?post1)
    case fin1 =>
      rintro ⟨r1, o1, i1, j1, ca, cb⟩ st' ⟨rfl, e, g⟩
      cases e
      obtain ⟨g1, g2, g3, g4⟩ := g
      refine ⟨rfl, g1, g2, ?_, g4⟩
      show x + 1 + 1 ≤ i1 + j1
      have g3 : x + 1 + max 0 (a.size + b.size) ≤ i1 + j1 := g3
      omega
    case step1 =>
      rintro y ⟨r1, o1, i1, j1, ca, cb⟩ st' _ hy ⟨rfl, e, g⟩
      cases e
      obtain ⟨g1, g2, g3, g4⟩ := g
      have g1 : i1 + 1 < a.size := g1
      have g2 : j1 < b.size := g2
      have g3 : x + 1 + y ≤ i1 + j1 := g3
      have g4 : ME a b T o1 i1 j1 := g4
      have p1 : i1 < a.size := by omega
      obtain ⟨t1, _, e1⟩ := ints_at ha p1
      obtain ⟨t2, _, e2⟩ := ints_at hb g2
      refine wpS_bind (wpS_elem g2 (wpS_bind (wpS_elem p1 (wpS_bind (wpS_lt (st := setG st v) hk e2 e1 ?_)))))
      dsimp only
      by_cases c : K b j1 < K a i1
      · rw [if_pos (decide_eq_true c)]
        have m2 := g4.pushB p1 g2 c
        refine wpS_bind (wpS_elem g2 ?_)
        by_cases d : j1 + 1 = b.size
        · rw [if_pos (by simpa using d)]
          exact wpS_pure ⟨rfl, m2.endA (.inl d)⟩
        · rw [if_neg (by simpa using d)]
          have q1 : j1 + 1 < b.size := by omega
          have q2 : x + 1 + (y + 1) ≤ i1 + (j1 + 1) := by omega
          have q3 : x + 1 + 1 ≤ i1 + (j1 + 1) := by omega
          split
          · exact wpS_pure ⟨rfl, g1, q1, q3, m2⟩
          · exact wpS_pure ⟨rfl, rfl, g1, q1, q2, m2⟩
      · rw [if_neg (by simpa using c)]
        have m2 := g4.pushA p1 g2 (Int.not_lt.mp c)
        refine wpS_bind (wpS_elem p1 ?_)
        by_cases d : i1 + 1 + 1 = a.size
        · rw [if_pos (by simpa using d)]
          refine wpS_pure ⟨rfl, m2.endB d (fun t ht => ?_)⟩
          have := h2 t ht
          rwa [← d] at this
        · rw [if_neg (by simpa using d)]
          have q1 : i1 + 1 + 1 < a.size := by omega
          have q2 : x + 1 + (y + 1) ≤ i1 + 1 + j1 := by omega
          have q3 : x + 1 + 1 ≤ i1 + 1 + j1 := by omega
          split
          · exact wpS_pure ⟨rfl, q1, g2, q3, m2⟩
          · exact wpS_pure ⟨rfl, rfl, q1, g2, q2, m2⟩
    case post1 =>
      rintro ⟨r1, o1, i1, j1, ca, cb⟩ st' ⟨rfl, g⟩
      cases r1 with
      | some r => exact wpS_pure ⟨⟨v, rfl⟩, r, rfl, g⟩
      | none =>
        refine wpS_bind (wpS_lift (wpAny_rule ⟨rfl, ?_⟩))
        refine wpS_bind (wpS_mono (wpS_forRange
          (I := fun y (c : St7) st' => (∃ v, st' = setG st v) ∧ c.1 = none ∧ Good a b T (x + 1 + 1) c.1 c.2.1 c.2.2.1 c.2.2.2.1)
          (Q := fun (c : St7) st' => (∃ v, st' = setG st v) ∧ Good a b T (x + 1 + 1) c.1 c.2.1 c.2.2.1 c.2.2.2.1) ?step2 ?fin2 ⟨⟨v, rfl⟩, rfl, g⟩) ?post2)
        case fin2 =>
          rintro c st' ⟨h1, _, h3⟩
          exact ⟨h1, h3⟩
        case post2 =>
          rintro ⟨r1, o1, i1, j1, mg1, ca, cb⟩ st' ⟨⟨v2, rfl⟩, g⟩
          cases r1 with
          | some r => exact wpS_pure ⟨⟨v2, rfl⟩, r, rfl, g⟩
          | none => exact wpS_bind (wpS_modify (wpS_pure ⟨⟨mg1 + 1, rfl⟩, rfl, g⟩))
        case step2 =>
          rintro y ⟨r1, o1, i1, j1, mg1, ca, cb⟩ st' _ hy ⟨⟨v2, rfl⟩, e, g⟩
          cases e
          obtain ⟨g1, g2, g3, g4⟩ := g
          have g1 : i1 + 1 < a.size := g1
          have g2 : j1 < b.size := g2
          have g3 : x + 1 + 1 ≤ i1 + j1 := g3
          have g4 : ME a b T o1 i1 j1 := g4
          obtain ⟨t2, _, e2⟩ := ints_at hb g2
          have main : ∀ v3 k, k ≤ a.size - i1 → (∀ t, t < k → K a (i1 + t) ≤ K b j1) → (∀ t, k ≤ t → t < a.size - i1 → K b j1 < K a (i1 + t)) → wpS (model prog w) A E s
              (if k > 0 then
                if i1 + k + 1 == a.size then pure (.done (some (o1 ++ a.extract i1 (i1 + k) ++ b.extract j1 b.size ++ a.extract (i1 + k) a.size), o1 ++ a.extract i1 (i1 + k), i1 + k, j1, v3, k, cb))
                else if i1 + k == a.size then pure (.done (some (o1 ++ a.extract i1 (i1 + k) ++ a.extract (i1 + k) a.size ++ b.extract j1 b.size), o1 ++ a.extract i1 (i1 + k), i1 + k, j1, v3, k, cb))
                else tailL a b (o1 ++ a.extract i1 (i1 + k)) (i1 + k) j1 v3 k cb
              else tailL a b o1 i1 j1 v3 k cb) (Q7 a b T st (x + 1 + 1)) (setG st v3) := fun v3 k g5 g6 g7 => by
            have m2 := g4.appA g2 g6
            by_cases c0 : k > 0
            · rw [if_pos c0]
              by_cases d : i1 + k + 1 = a.size
              · rw [if_pos (by simpa using d)]
                refine wpS_pure ⟨⟨v3, rfl⟩, m2.endB d (fun t ht => ?_)⟩
                have := h2 t ht
                rwa [← d] at this
              · rw [if_neg (by simpa using d)]
                by_cases d2 : i1 + k = a.size
                · rw [if_pos (by simpa using d2)]
                  exact wpS_pure ⟨⟨v3, rfl⟩, m2.endA (.inr d2)⟩
                · rw [if_neg (by simpa using d2)]
                  exact wpS_tailL hk ha hb sb h2 m2 (by omega) g2 (by omega) (g7 k (by omega) (by omega))
            · rw [if_neg c0]
              have k0 : k = 0 := by omega
              subst k0
              exact wpS_tailL hk ha hb sb h2 g4 g1 g2 g3 (g7 0 (by omega) (by omega))
          refine wpS_ite (fun _ => ?_) (fun _ => ?_)
          · exact wpS_bind (wpS_modify (wpS_bind (wpS_elem g2 (wpS_bind (wpS_gallF (st := setG st _) hk ha e2 sa (by omega) (by omega) fun k k1 k2 k3 => wpS_mono (main _ k k1 k2 k3) (fun r st' h => by cases r <;> exact h))))))
          · exact wpS_bind (wpS_modify (wpS_bind (wpS_elem g2 (wpS_bind (wpS_gallF (st := setG st _) hk ha e2 sa (by omega) (by omega) fun k k1 k2 k3 => wpS_mono (main _ k k1 k2 k3) (fun r st' h => by cases r <;> exact h))))))
end
end S64
namespace S64
open PySem PyProof.Rows
theorem mergeHi'_eq (a b : Array Keyed) : mergeHi' a b = (do
  rule "list.sort.merge-hi"
  let all := a.size + b.size
  let endA (o : Array Keyed) (p q : Nat) := a.extract 0 p ++ b.extract 0 q ++ o.reverse
  let endB (o : Array Keyed) (p q : Nat) := b.extract 0 q ++ a.extract 0 p ++ o.reverse
  let mut p := a.size - 1
  let mut q := b.size
  let mut o : Array Keyed := #[← elem' a p]
  if p == 0 then return endA o p q
  if q == 1 then return endB o p q
  let mut mg := gallopOf (← get)
  for _ in [0:all] do
    let mut ca := 0
    let mut cb := 0
    for _ in [0:all] do
      let some al ← lt' (← elem' b (q - 1)) (← elem' a (p - 1)) | return endA o p q
      if al then
        p := p - 1; o := o.push (← elem' a p); ca := ca + 1; cb := 0
        if p == 0 then return endA o p q
        if ca ≥ mg then break
      else
        q := q - 1; o := o.push (← elem' b q); cb := cb + 1; ca := 0
        if q == 1 then return endB o p q
        if cb ≥ mg then break
    rule "list.sort.gallop"
    mg := mg + 1
    for _ in [0:all] do
      if mg > 1 then mg := mg - 1
      setMinGallop' mg
      let some r ← gallop' false (← elem' b (q - 1)) a 0 p (p - 1) | return endA o p q
      let k := p - r
      ca := k
      if k > 0 then
        o := o ++ (a.extract r p).reverse; p := r
        if p == 0 then return endA o p q
      q := q - 1; o := o.push (← elem' b q)
      if q == 1 then return endB o p q
      let some r ← gallop' true (← elem' a (p - 1)) b 0 q (q - 1) | return endA o p q
      let k := q - r
      cb := k
      if k > 0 then
        o := o ++ (b.extract r q).reverse; q := r
        if q == 1 then return endB o p q
        if q == 0 then return endA o p q
      p := p - 1; o := o.push (← elem' a p)
      if p == 0 then return endA o p q
      if ca < 7 && cb < 7 then break
    mg := mg + 1
    setMinGallop' mg
  unsupported "internal:list.sort.merge-bound") := rfl
def MH (a b : Array Keyed) (T : List Keyed) (o : Array Keyed) (p q : Nat) : Prop := mer (a.toList.take p) (b.toList.take q) ++ o.toList.reverse = T
theorem take_at {xs : Array Keyed} {p : Nat} (h : p < xs.size) : xs.toList.take (p + 1) = xs.toList.take p ++ [xs[p]] := by
  rw [List.take_succ_eq_append_getElem (by simpa using h)]
  simp
theorem take_mem {xs : Array Keyed} {p : Nat} {x : Keyed} (h : x ∈ xs.toList.take p) : ∃ t, t < p ∧ t < xs.size ∧ kv x = K xs t := by
  obtain ⟨t, ht, rfl⟩ := List.mem_iff_getElem.mp h
  rw [List.length_take, Array.length_toList] at ht
  refine ⟨t, by omega, by omega, ?_⟩
  rw [List.getElem_take, ← kv_at (by omega)]
  simp
theorem ext_zero (xs : Array Keyed) (p : Nat) : (xs.extract 0 p).toList = xs.toList.take p := by
  rw [ext_list, List.drop_zero, Nat.sub_zero]
theorem take_split (xs : Array Keyed) {r p : Nat} (h : r ≤ p) : xs.toList.take p = xs.toList.take r ++ (xs.extract r p).toList := by
  rw [ext_list, ← List.take_append_drop r (xs.toList.take p), List.take_take, Nat.min_eq_left h, List.drop_take]
section
variable {a b : Array Keyed} {T : List Keyed} {o : Array Keyed} {p q : Nat}
theorem MH.popA (h : MH a b T o (p + 1) (q + 1)) (sb : SortedTo b b.size) (hp : p < a.size) (hq : q < b.size) (c : K b q < K a p) : MH a b T (o.push a[p]) p (q + 1) := by
  unfold MH at h ⊢
  rw [take_at hp, mer_lastL _ _ _ (fun y hy => by
    obtain ⟨t, h1, h2, e⟩ := take_mem hy
    rw [e, kv_at hp]
    exact Int.lt_of_le_of_lt (sb t q (by omega) hq) c), List.append_assoc] at h
  rw [Array.toList_push, List.reverse_append]
  exact h
theorem MH.popB (h : MH a b T o (p + 1) (q + 1)) (sa : SortedTo a a.size) (hp : p < a.size) (hq : q < b.size) (c : K a p ≤ K b q) : MH a b T (o.push b[q]) (p + 1) q := by
  unfold MH at h ⊢
  rw [take_at hq, mer_lastR _ _ _ (fun y hy => by
    obtain ⟨t, h1, h2, e⟩ := take_mem hy
    rw [e, kv_at hq]
    exact Int.le_trans (sa t p (by omega) hp) c), List.append_assoc] at h
  rw [Array.toList_push, List.reverse_append]
  exact h
theorem MH.runA {r : Nat} (h : MH a b T o p (q + 1)) (sb : SortedTo b b.size) (hp : p ≤ a.size) (hq : q < b.size) (hr : r ≤ p) (c : ∀ t, r ≤ t → t < p → K b q < K a t) : MH a b T (o ++ (a.extract r p).reverse) r (q + 1) := by
  unfold MH at h ⊢
  have e0 : r + (p - r) = p := by omega
  rw [take_split a hr, mer_runL _ _ _ (fun y hy x hx => by
    obtain ⟨t, h1, h2, e⟩ := take_mem hy
    rw [← e0] at hx
    obtain ⟨t2, h3, h4, e2⟩ := ext_mem hx
    rw [e, e2]
    exact Int.lt_of_le_of_lt (sb t q (by omega) hq) (c _ (by omega) (by omega))), List.append_assoc] at h
  rw [Array.toList_append, List.reverse_append, Array.toList_reverse, List.reverse_reverse]
  exact h
theorem MH.runB {r : Nat} (h : MH a b T o (p + 1) q) (sa : SortedTo a a.size) (hp : p < a.size) (hq : q ≤ b.size) (hr : r ≤ q) (c : ∀ t, r ≤ t → t < q → K a p ≤ K b t) : MH a b T (o ++ (b.extract r q).reverse) (p + 1) r := by
  unfold MH at h ⊢
  have e0 : r + (q - r) = q := by omega
  rw [take_split b hr, mer_runR _ _ _ (fun y hy x hx => by
    obtain ⟨t, h1, h2, e⟩ := take_mem hy
    rw [← e0] at hx
    obtain ⟨t2, h3, h4, e2⟩ := ext_mem hx
    rw [e, e2]
    exact Int.le_trans (sa t p (by omega) hp) (c _ (by omega) (by omega))), List.append_assoc] at h
  rw [Array.toList_append, List.reverse_append, Array.toList_reverse, List.reverse_reverse]
  exact h
theorem MH.endA (h : MH a b T o p q) (c : p = 0 ∨ q = 0) : (a.extract 0 p ++ b.extract 0 q ++ o.reverse).toList = T := by
  unfold MH at h
  rw [Array.toList_append, Array.toList_append, ext_zero, ext_zero, Array.toList_reverse, ← h]
  rcases c with rfl | rfl
  · rw [List.take_zero, mer_nil, List.nil_append]
  · rw [List.take_zero, nil_mer, List.append_nil]
theorem MH.endB (h : MH a b T o p 1) (b0 : 0 < b.size) (c : ∀ t, t < a.size → K b 0 < K a t) : (b.extract 0 1 ++ a.extract 0 p ++ o.reverse).toList = T := by
  unfold MH at h
  rw [Array.toList_append, Array.toList_append, ext_zero, ext_zero, Array.toList_reverse, ← h]
  congr 1
  rw [take_at b0, List.take_zero, List.nil_append]
  cases e : a.toList.take p with
  | nil => rw [mer_nil]; rfl
  | cons x u =>
    have hx : x ∈ a.toList.take p := by rw [e]; exact .head _
    obtain ⟨t, _, h2, e2⟩ := take_mem hx
    rw [mer_r (by rw [kv_at b0, e2]; exact c t h2), nil_mer]
    rfl
end
end S64
namespace S64
open PySem PyProof.Rows
abbrev Hi7 := Option (Array Keyed) × Nat × Nat × Array Keyed × Nat × Nat × Nat
abbrev Hi6 := Option (Array Keyed) × Nat × Nat × Array Keyed × Nat × Nat
abbrev Hi5 := Option (Array Keyed) × Nat × Nat × Array Keyed × Nat
def lastH (a b o : Array Keyed) (p q mg ca cb : Nat) : SM (ForInStep Hi7) := do
  let z ← elem' a (p - 1)
  if p - 1 == 0 then pure (.done (some (a.extract 0 (p - 1) ++ b.extract 0 q ++ (o.push z).reverse), p - 1, q, o.push z, mg, ca, cb))
  else if ca < 7 && cb < 7 then pure (.done (none, p - 1, q, o.push z, mg, ca, cb))
  else pure (.yield (none, p - 1, q, o.push z, mg, ca, cb))
def tailH (a b o : Array Keyed) (p q mg ca cb : Nat) : SM (ForInStep Hi7) := do
  let x ← elem' b (q - 1)
  if q - 1 == 1 then pure (.done (some (b.extract 0 (q - 1) ++ a.extract 0 p ++ (o.push x).reverse), p, q - 1, o.push x, mg, ca, cb))
  else do
    let y ← elem' a (p - 1)
    let g ← gallop' true y b 0 (q - 1) (q - 1 - 1)
    match g with
    | some r =>
      if q - 1 - r > 0 then
        if r == 1 then
          pure (.done (some (b.extract 0 r ++ a.extract 0 p ++ (o.push x ++ (b.extract r (q - 1)).reverse).reverse), p, r, o.push x ++ (b.extract r (q - 1)).reverse, mg, ca, q - 1 - r))
        else if r == 0 then
          pure (.done (some (a.extract 0 p ++ b.extract 0 r ++ (o.push x ++ (b.extract r (q - 1)).reverse).reverse), p, r, o.push x ++ (b.extract r (q - 1)).reverse, mg, ca, q - 1 - r))
        else lastH a b (o.push x ++ (b.extract r (q - 1)).reverse) p r mg ca (q - 1 - r)
      else lastH a b (o.push x) p (q - 1) mg ca (q - 1 - r)
    | _ => pure (.done (some (a.extract 0 p ++ b.extract 0 (q - 1) ++ (o.push x).reverse), p, q - 1, o.push x, mg, ca, cb))
def GoodH (a b : Array Keyed) (T : List Keyed) (n : Nat) (r : Option (Array Keyed)) (p q : Nat) (o : Array Keyed) : Prop := match r with
  | some r => r.toList = T
  | none => 0 < p ∧ 1 < q ∧ p ≤ a.size ∧ q ≤ b.size ∧ n + p + q ≤ a.size + b.size ∧ MH a b T o p q
section
variable {prog : Program} {w : World} {A : Around} {E : Value → Shared → Prop} {s : Shared}
variable {st : SortSt} {a b : Array Keyed} {T : List Keyed} {n : Nat}
def QH (a b : Array Keyed) (T : List Keyed) (st : SortSt) (n : Nat) (r : ForInStep Hi7) (st' : SortSt) : Prop := match r with
  | .done c => (∃ v, st' = setG st v) ∧ GoodH a b T n c.1 c.2.1 c.2.2.1 c.2.2.2.1
  | .yield c => (∃ v, st' = setG st v) ∧ c.1 = none ∧ GoodH a b T n c.1 c.2.1 c.2.2.1 c.2.2.2.1
theorem wpS_lastH {o : Array Keyed} {p q mg ca cb v : Nat} (sb : SortedTo b b.size) (m : MH a b T o (p + 1) (q + 1)) (hp : p < a.size) (hq : q < b.size) (q1 : 0 < q) (hn : n + (p + 1) + (q + 1) ≤ a.size + b.size) (c : K b q < K a p) :
    wpS (model prog w) A E s (lastH a b o (p + 1) (q + 1) mg ca cb) (QH a b T st n) (setG st v) := by
  unfold lastH
  rw [Nat.add_sub_cancel]
  refine wpS_bind (wpS_elem hp ?_)
  have m2 := m.popA sb hp hq c
  by_cases d : p = 0
  · rw [if_pos (by simpa using d)]
    exact wpS_pure ⟨⟨v, rfl⟩, m2.endA (.inl d)⟩
  · rw [if_neg (by simpa using d)]
    have d0 : 0 < p := by omega
    have d1 : 1 < q + 1 := by omega
    have d2 : n + p + (q + 1) ≤ a.size + b.size := by omega
    have d3 : p ≤ a.size := by omega
    split
    · exact wpS_pure ⟨⟨v, rfl⟩, d0, d1, d3, hq, d2, m2⟩
    · exact wpS_pure ⟨⟨v, rfl⟩, rfl, d0, d1, d3, hq, d2, m2⟩
theorem wpS_tailH {o : Array Keyed} {p q mg ca cb v : Nat} (hk : kindOf st = oneType') (ha : IntKeys a) (hb : IntKeys b) (sa : SortedTo a a.size) (sb : SortedTo b b.size) (h2 : ∀ t, t < a.size → K b 0 < K a t)
    (m : MH a b T o (p + 1) (q + 1)) (hp : p < a.size) (hq : q < b.size) (q0 : 0 < q) (hn : n + (p + 1) + (q + 1) ≤ a.size + b.size) (c : K a p ≤ K b q) :
    wpS (model prog w) A E s (tailH a b o (p + 1) (q + 1) mg ca cb) (QH a b T st n) (setG st v) := by
  unfold tailH
  rw [Nat.add_sub_cancel, Nat.add_sub_cancel]
  refine wpS_bind (wpS_elem hq ?_)
  have m2 := m.popB sa hp hq c
  by_cases d : q = 1
  · rw [if_pos (by simpa using d)]
    subst d
    exact wpS_pure ⟨⟨v, rfl⟩, m2.endB (by omega) h2⟩
  · rw [if_neg (by simpa using d)]
    obtain ⟨t, _, e⟩ := ints_at ha hp
    refine wpS_bind (wpS_elem hp (wpS_bind (wpS_gallT (st := setG st v) hk hb e sb (by omega) (by omega) fun r g1 g2 g3 => ?_)))
    dsimp only
    have g2 : ∀ i, i < r → K b i < K a p := fun i hi => by have := g2 i hi; rwa [Nat.zero_add] at this
    have g3 : ∀ i, r ≤ i → i < q → K a p ≤ K b i := fun i h1 hi => by have := g3 i h1 hi; rwa [Nat.zero_add] at this
    have m3 := m2.runB sa hp (Nat.le_of_lt hq) g1 g3
    by_cases c0 : q - r > 0
    · rw [if_pos c0]
      by_cases d1 : r = 1
      · rw [if_pos (by simpa using d1)]
        subst d1
        exact wpS_pure ⟨⟨v, rfl⟩, m3.endB (by omega) h2⟩
      · rw [if_neg (by simpa using d1)]
        by_cases d2 : r = 0
        · rw [if_pos (by simpa using d2)]
          exact wpS_pure ⟨⟨v, rfl⟩, m3.endA (.inr d2)⟩
        · rw [if_neg (by simpa using d2)]
          obtain ⟨r', rfl⟩ : ∃ r', r = r' + 1 := ⟨r - 1, by omega⟩
          exact wpS_lastH sb m3 hp (by omega) (by omega) (by omega) (g2 r' (by omega))
    · rw [if_neg c0]
      obtain ⟨q', rfl⟩ : ∃ r', q = r' + 1 := ⟨q - 1, by omega⟩
      exact wpS_lastH sb m2 hp (by omega) (by omega) (by omega) (g2 q' (by omega))
theorem wpS_mergeHi {Q : Array Keyed → SortSt → Prop} (hk : kindOf st = oneType') (ha : IntKeys a) (hb : IntKeys b) (sa : SortedTo a a.size) (sb : SortedTo b b.size)
    (a0 : 0 < a.size) (b0 : 0 < b.size) (h1 : K b 0 < K a 0) (h2 : ∀ t, t < b.size → K b t < K a (a.size - 1))
    (hQ : ∀ r v, r.toList = mer a.toList b.toList → Q r (setG st v)) : wpS (model prog w) A E s (mergeHi' a b) Q st := by
  have h3 : ∀ t, t < a.size → K b 0 < K a t := fun t ht => Int.lt_of_lt_of_le h1 (sa 0 t (Nat.zero_le _) ht)
  rw [mergeHi'_eq]
  refine wpS_bind (wpS_lift (wpAny_rule ⟨rfl, ?_⟩))
  have p0 : a.size - 1 < a.size := by omega
  refine wpS_bind (wpS_elem p0 ?_)
  obtain ⟨T, hT⟩ : ∃ T, T = mer a.toList b.toList := ⟨_, rfl⟩
  rw [← hT] at hQ
  have m0 : MH a b T #[a[a.size - 1]] (a.size - 1) b.size := by
    have e1 : a.size - 1 + 1 = a.size := by omega
    have e2 : b.size - 1 + 1 = b.size := by omega
    have := MH.popA (a := a) (b := b) (T := mer a.toList b.toList) (o := #[]) (p := a.size - 1) (q := b.size - 1) (by
      unfold MH
      rw [e1, e2, List.take_of_length_le (by simp), List.take_of_length_le (by simp)]
      exact List.append_nil _) sb p0 (by omega) (h2 _ (by omega))
    rw [e2] at this
    rw [hT]
    exact this
  dsimp only
  by_cases c1 : a.size - 1 = 0
  · rw [if_pos (by simpa using c1)]
    exact wpS_pure (hQ _ (gallopOf st) (m0.endA (.inl c1)))
  rw [if_neg (by simpa using c1)]
  by_cases c2 : b.size = 1
  · rw [if_pos (by simpa using c2)]
    rw [c2] at m0 ⊢
    exact wpS_pure (hQ _ (gallopOf st) (m0.endB b0 h3))
  rw [if_neg (by simpa using c2)]
  refine wpS_bind (wpS_get ?_)
  have i1 : 0 < a.size - 1 := by omega
  have i2 : 1 < b.size := by omega
  have i3 : a.size - 1 ≤ a.size := by omega
  have i4 : 0 + 1 + (a.size - 1) + b.size ≤ a.size + b.size := by omega
  refine wpS_bind (wpS_mono (wpS_forRange
    (I := fun x (c : Hi5) st' => (∃ v, st' = setG st v) ∧ c.1 = none ∧ GoodH a b T (x + 1) c.1 c.2.1 c.2.2.1 c.2.2.2.1)
    (Q := fun (c : Hi5) st' => (∃ v, st' = setG st v) ∧ ∃ r, c.1 = some r ∧ r.toList = T) ?step ?fin ⟨⟨gallopOf st, rfl⟩, rfl, i1, i2, i3, Nat.le_refl _, i4, m0⟩) ?post)
  case post =>
    rintro ⟨r, p, q, o, mg⟩ st' ⟨⟨v, rfl⟩, r', e, hr⟩
    cases e
    exact wpS_pure (hQ _ v hr)
  case fin =>
    rintro ⟨r, p, q, o, mg⟩ st' ⟨_, e, g⟩
    cases e
    obtain ⟨g1, g2, g3, g4, g5, _⟩ := g
    have g5 : max 0 (a.size + b.size) + 1 + p + q ≤ a.size + b.size := g5
    omega
  case step =>
    rintro x ⟨r, p, q, o, mg⟩ st' _ hx ⟨⟨v, rfl⟩, e, g⟩
    cases e
    refine wpS_bind (wpS_mono (wpS_forRange
      (I := fun y (c : Hi6) st' => st' = setG st v ∧ c.1 = none ∧ GoodH a b T (x + 1 + y) c.1 c.2.1 c.2.2.1 c.2.2.2.1)
      (Q := fun (c : Hi6) st' => st' = setG st v ∧ GoodH a b T (x + 1 + 1) c.1 c.2.1 c.2.2.1 c.2.2.2.1) ?step1 ?fin1 ⟨rfl, rfl, g⟩) ?post1)
    case fin1 =>
      rintro ⟨r1, p1, q1, o1, ca, cb⟩ st' ⟨rfl, e, g⟩
      cases e
      obtain ⟨g1, g2, g3, g4, g5, g6⟩ := g
      refine ⟨rfl, g1, g2, g3, g4, ?_, g6⟩
      show x + 1 + 1 + p1 + q1 ≤ a.size + b.size
      have g5 : x + 1 + max 0 (a.size + b.size) + p1 + q1 ≤ a.size + b.size := g5
      omega
    case step1 =>
      rintro y ⟨r1, p1, q1, o1, ca, cb⟩ st' _ hy ⟨rfl, e, g⟩
      cases e
      obtain ⟨g1, g2, g3, g4, g5, g6⟩ := g
      have g1 : 0 < p1 := g1
      have g2 : 1 < q1 := g2
      have g3 : p1 ≤ a.size := g3
      have g4 : q1 ≤ b.size := g4
      have g5 : x + 1 + y + p1 + q1 ≤ a.size + b.size := g5
      have g6 : MH a b T o1 p1 q1 := g6
      obtain ⟨p2, rfl⟩ : ∃ r', p1 = r' + 1 := ⟨p1 - 1, by omega⟩
      obtain ⟨q2, rfl⟩ : ∃ r', q1 = r' + 1 := ⟨q1 - 1, by omega⟩
      have u1 : p2 < a.size := by omega
      have u2 : q2 < b.size := by omega
      obtain ⟨t1, _, e1⟩ := ints_at ha u1
      obtain ⟨t2, _, e2⟩ := ints_at hb u2
      dsimp only
      rw [Nat.add_sub_cancel, Nat.add_sub_cancel]
      refine wpS_bind (wpS_elem u2 (wpS_bind (wpS_elem u1 (wpS_bind (wpS_lt (st := setG st v) hk e2 e1 ?_)))))
      dsimp only
      by_cases c : K b q2 < K a p2
      · rw [if_pos (decide_eq_true c)]
        have m2 := g6.popA sb u1 u2 c
        refine wpS_bind (wpS_elem u1 ?_)
        by_cases d : p2 = 0
        · rw [if_pos (by simpa using d)]
          exact wpS_pure ⟨rfl, m2.endA (.inl d)⟩
        · rw [if_neg (by simpa using d)]
          have z1 : 0 < p2 := by omega
          have z2 : x + 1 + (y + 1) + p2 + (q2 + 1) ≤ a.size + b.size := by omega
          have z3 : x + 1 + 1 + p2 + (q2 + 1) ≤ a.size + b.size := by omega
          split
          · exact wpS_pure ⟨rfl, z1, g2, Nat.le_of_lt u1, g4, z3, m2⟩
          · exact wpS_pure ⟨rfl, rfl, z1, g2, Nat.le_of_lt u1, g4, z2, m2⟩
      · rw [if_neg (by simpa using c)]
        have m2 := g6.popB sa u1 u2 (Int.not_lt.mp c)
        refine wpS_bind (wpS_elem u2 ?_)
        by_cases d : q2 = 1
        · rw [if_pos (by simpa using d)]
          subst d
          exact wpS_pure ⟨rfl, m2.endB b0 h3⟩
        · rw [if_neg (by simpa using d)]
          have z1 : 1 < q2 := by omega
          have z2 : x + 1 + (y + 1) + (p2 + 1) + q2 ≤ a.size + b.size := by omega
          have z3 : x + 1 + 1 + (p2 + 1) + q2 ≤ a.size + b.size := by omega
          split
          · exact wpS_pure ⟨rfl, g1, z1, g3, Nat.le_of_lt u2, z3, m2⟩
          · exact wpS_pure ⟨rfl, rfl, g1, z1, g3, Nat.le_of_lt u2, z2, m2⟩
    case post1 =>
      rintro ⟨r1, p1, q1, o1, ca, cb⟩ st' ⟨rfl, g⟩
      cases r1 with
      | some r => exact wpS_pure ⟨⟨v, rfl⟩, r, rfl, g⟩
      | none =>
        refine wpS_bind (wpS_lift (wpAny_rule ⟨rfl, ?_⟩))
        refine wpS_bind (wpS_mono (wpS_forRange
          (I := fun y (c : Hi7) st' => (∃ v, st' = setG st v) ∧ c.1 = none ∧ GoodH a b T (x + 1 + 1) c.1 c.2.1 c.2.2.1 c.2.2.2.1)
          (Q := fun (c : Hi7) st' => (∃ v, st' = setG st v) ∧ GoodH a b T (x + 1 + 1) c.1 c.2.1 c.2.2.1 c.2.2.2.1) ?step2 ?fin2 ⟨⟨v, rfl⟩, rfl, g⟩) ?post2)
        case fin2 =>
          rintro c st' ⟨h1, _, h3⟩
          exact ⟨h1, h3⟩
        case post2 =>
          rintro ⟨r1, p1, q1, o1, mg1, ca, cb⟩ st' ⟨⟨v2, rfl⟩, g⟩
          cases r1 with
          | some r => exact wpS_pure ⟨⟨v2, rfl⟩, r, rfl, g⟩
          | none => exact wpS_bind (wpS_modify (wpS_pure ⟨⟨mg1 + 1, rfl⟩, rfl, g⟩))
        case step2 =>
          rintro y ⟨r1, p1, q1, o1, mg1, ca, cb⟩ st' _ hy ⟨⟨v2, rfl⟩, e, g⟩
          cases e
          obtain ⟨g1, g2, g3, g4, g5, g6⟩ := g
          have g1 : 0 < p1 := g1
          have g2 : 1 < q1 := g2
          have g3 : p1 ≤ a.size := g3
          have g4 : q1 ≤ b.size := g4
          have g5 : x + 1 + 1 + p1 + q1 ≤ a.size + b.size := g5
          have g6 : MH a b T o1 p1 q1 := g6
          have u2 : q1 - 1 < b.size := by omega
          obtain ⟨t2, _, e2⟩ := ints_at hb u2
          have main : ∀ v3 r, r ≤ p1 → (∀ t, t < r → K a (0 + t) ≤ K b (q1 - 1)) → (∀ t, r ≤ t → t < p1 → K b (q1 - 1) < K a (0 + t)) → wpS (model prog w) A E s
              (if p1 - r > 0 then
                if r == 0 then pure (.done (some (a.extract 0 r ++ b.extract 0 q1 ++ (o1 ++ (a.extract r p1).reverse).reverse), r, q1, o1 ++ (a.extract r p1).reverse, v3, p1 - r, cb))
                else tailH a b (o1 ++ (a.extract r p1).reverse) r q1 v3 (p1 - r) cb
              else tailH a b o1 p1 q1 v3 (p1 - r) cb) (QH a b T st (x + 1 + 1)) (setG st v3) := fun v3 r k1 k2 k3 => by
            obtain ⟨q2, rfl⟩ : ∃ r', q1 = r' + 1 := ⟨q1 - 1, by omega⟩
            rw [Nat.add_sub_cancel] at k2 k3 u2
            have k2 : ∀ i, i < r → K a i ≤ K b q2 := fun i hi => by have := k2 i hi; rwa [Nat.zero_add] at this
            have k3 : ∀ i, r ≤ i → i < p1 → K b q2 < K a i := fun i h1 hi => by have := k3 i h1 hi; rwa [Nat.zero_add] at this
            have m2 := g6.runA sb g3 u2 k1 k3
            by_cases c0 : p1 - r > 0
            · rw [if_pos c0]
              by_cases d : r = 0
              · rw [if_pos (by simpa using d)]
                exact wpS_pure ⟨⟨v3, rfl⟩, m2.endA (.inl d)⟩
              · rw [if_neg (by simpa using d)]
                obtain ⟨r', rfl⟩ : ∃ r', r = r' + 1 := ⟨r - 1, by omega⟩
                exact wpS_tailH hk ha hb sa sb h3 m2 (by omega) u2 (by omega) (by omega) (k2 r' (by omega))
            · rw [if_neg c0]
              obtain ⟨p2, rfl⟩ : ∃ r', p1 = r' + 1 := ⟨p1 - 1, by omega⟩
              exact wpS_tailH hk ha hb sa sb h3 g6 (by omega) u2 (by omega) (by omega) (k2 p2 (by omega))
          refine wpS_ite (fun _ => ?_) (fun _ => ?_)
          · exact wpS_bind (wpS_modify (wpS_bind (wpS_elem u2 (wpS_bind (wpS_gallF (st := setG st _) hk ha e2 sa (by omega) (by omega) fun k k1 k2 k3 => wpS_mono (main _ k k1 k2 k3) (fun r st' h => by cases r <;> exact h))))))
          · exact wpS_bind (wpS_modify (wpS_bind (wpS_elem u2 (wpS_bind (wpS_gallF (st := setG st _) hk ha e2 sa (by omega) (by omega) fun k k1 k2 k3 => wpS_mono (main _ k k1 k2 k3) (fun r st' h => by cases r <;> exact h))))))
end
end S64
namespace S64
open PySem PyProof.Rows
structure SP (g : Array Keyed) (pd : Array (Nat × Nat × Nat)) (z : SortSt) : Prop where
  perm : (arrOf z).Perm g
  kind : kindOf z = oneType'
  failed : failedOf z = none
  pend : pendingOf z = pd
def Seg (xs : Array Keyed) (lo e : Nat) : Prop := ∀ i j, lo ≤ i → i ≤ j → j < e → K xs i ≤ K xs j
def Dwn (xs : Array Keyed) (lo e : Nat) : Prop := ∀ i j, lo ≤ i → i ≤ j → j < e → K xs j ≤ K xs i
def Keep (xs ys : Array Keyed) (lo : Nat) : Prop := ∀ i, i < lo → K xs i = K ys i
theorem Keep.rf (xs : Array Keyed) (lo : Nat) : Keep xs xs lo := fun _ _ => rfl
theorem Keep.tr {xs ys zs : Array Keyed} {lo : Nat} (h : Keep xs ys lo) (g : Keep ys zs lo) : Keep xs zs lo := fun i hi => (h i hi).trans (g i hi)
variable {g : Array Keyed} {pd : Array (Nat × Nat × Nat)} {z : SortSt}
theorem SP.size (h : SP g pd z) : (arrOf z).size = g.size := h.perm.size_eq
theorem SP.to (h : SP g pd z) {xs : Array Keyed} (hp : xs.Perm (arrOf z)) : SP g pd (setArr z xs) := ⟨hp.trans h.perm, h.kind, h.failed, h.pend⟩
theorem SP.base (h : SP g pd z) : SBase g (setPending z #[]) := ⟨h.perm, h.kind, h.failed, rfl⟩
theorem SP.ints (h : SP g pd z) (h0 : IntKeys g) : IntKeys (arrOf z) := fun x hx => h0 x ((Array.perm_iff_toList_perm.mp h.perm).mem_iff.mp hx)
def upL (lo a m : Nat) : SM (Option (Option Nat) × Nat) := forIn [a:m] ((none, a) : Option (Option Nat) × Nat) fun _ c => do
  let x ← ltAt' (lo + c.snd) (lo + c.snd - 1)
  match x with
  | some t => if t = true then pure (ForInStep.done (none, c.snd)) else pure (ForInStep.yield (none, c.snd + 1))
  | _ => pure (ForInStep.done (some none, c.snd))
def tl3 (lo n m : Nat) : SM (Option Nat) := do
  reverseSlice' lo (lo + n)
  let c ← upL lo n m
  match c.fst with
  | some r => pure r
  | none => pure (some c.snd)
def dwnL (lo n m : Nat) : SM (Option (Option Nat) × Nat × Nat) := forIn [n:m] ((none, n, 0) : Option (Option Nat) × Nat × Nat) fun _ c => do
  let x ← ltAt' (lo + c.snd.fst) (lo + c.snd.fst - 1)
  match x with
  | some t =>
    if t = true then
      if c.snd.snd > 0 then do
        reverseSlice' (lo + c.snd.fst - (c.snd.snd + 1)) (lo + c.snd.fst)
        pure (ForInStep.yield (none, c.snd.fst + 1, 0))
      else pure (ForInStep.yield (none, c.snd.fst + 1, 0))
    else do
      let y ← ltAt' (lo + c.snd.fst - 1) (lo + c.snd.fst)
      match y with
      | some u => if u = true then pure (ForInStep.done (none, c.snd.fst, c.snd.snd)) else pure (ForInStep.yield (none, c.snd.fst + 1, c.snd.snd + 1))
      | _ => pure (ForInStep.done (some none, c.snd.fst, c.snd.snd))
  | _ => pure (ForInStep.done (some none, c.snd.fst, c.snd.snd))
def dwnP (lo n m : Nat) : SM (Option Nat) := do
  liftM (rule "list.sort.descending-run")
  let c ← dwnL lo (n + 1) m
  match c.fst with
  | some r => pure r
  | none =>
    if c.snd.snd > 0 then do
      reverseSlice' (lo + c.snd.fst - (c.snd.snd + 1)) (lo + c.snd.fst)
      tl3 lo c.snd.fst m
    else tl3 lo c.snd.fst m
section
variable {prog : Program} {w : World} {A : Around} {E : Value → Shared → Prop} {s : Shared}
theorem wpS_ltP {i j : Nat} {Q : Option Bool → SortSt → Prop} (hB : SP g pd z) (h0 : IntKeys g) (hi : i < g.size) (hj : j < g.size) (h : Q (some (decide (K (arrOf z) i < K (arrOf z) j))) z) : wpS (model prog w) A E s (ltAt' i j) Q z := by
  obtain ⟨t, p, e1⟩ := hB.base.at h0 hi
  obtain ⟨u, q, e2⟩ := hB.base.at h0 hj
  exact wpS_ltAt hB.kind e1 e2 h
theorem wpS_upL {lo a m : Nat} {Q : Option (Option Nat) × Nat → SortSt → Prop} (h0 : IntKeys g) (hm : lo + m ≤ g.size) (ha : 1 ≤ a) (ham : a ≤ m) (hB : SP g pd z) (hs : Seg (arrOf z) lo (lo + a))
    (h : ∀ n, a ≤ n → n ≤ m → Seg (arrOf z) lo (lo + n) → (n = m ∨ K (arrOf z) (lo + n) < K (arrOf z) (lo + n - 1)) → Q (none, n) z) : wpS (model prog w) A E s (upL lo a m) Q z := by
  unfold upL
  refine wpS_forRange (I := fun x c z' => z' = z ∧ c = (none, x) ∧ Seg (arrOf z) lo (lo + x)) ?_ ?_ ⟨rfl, rfl, hs⟩
  · rintro x c z' hax hxm ⟨rfl, rfl, hs'⟩
    dsimp only
    refine wpS_bind (wpS_ltP hB h0 (by omega) (by omega) ?_)
    dsimp only
    by_cases c : K (arrOf z') (lo + x) < K (arrOf z') (lo + x - 1)
    · rw [if_pos (decide_eq_true c)]
      exact wpS_pure (h x hax (by omega) hs' (.inr c))
    · rw [if_neg (by simpa using c)]
      refine wpS_pure ⟨rfl, rfl, fun i j h1 h2 h3 => ?_⟩
      by_cases c2 : j < lo + x
      · exact hs' i j h1 h2 c2
      · have ej : j = lo + x := by omega
        subst ej
        by_cases c3 : i = lo + x
        · subst c3; exact Int.le_refl _
        · exact Int.le_trans (hs' i (lo + x - 1) h1 (by omega) (by omega)) (Int.not_lt.mp c)
  · rintro c z' ⟨rfl, rfl, hs'⟩
    have em : max a m = m := by omega
    rw [em] at hs' ⊢
    exact h m ham (Nat.le_refl _) hs' (.inl rfl)
theorem wpS_tl3 {lo n m : Nat} {Q : Option Nat → SortSt → Prop} (h0 : IntKeys g) (hm : lo + m ≤ g.size) (h1 : 1 ≤ n) (hnm : n ≤ m) (hB : SP g pd z) (hs : Dwn (arrOf z) lo (lo + n))
    (h : ∀ r z', SP g pd z' → 1 ≤ r → r ≤ m → Seg (arrOf z') lo (lo + r) → Keep (arrOf z') (arrOf z) lo → Q (some r) z') : wpS (model prog w) A E s (tl3 lo n m) Q z := by
  unfold tl3
  have hz : lo + n ≤ (arrOf z).size := by rw [hB.size]; omega
  refine wpS_bind (wpS_reverse ?_)
  have hB' := hB.to (mirror_perm (arrOf z) lo (lo + n) ((lo + n - lo) / 2))
  refine wpS_bind (wpS_upL h0 hm h1 hnm hB' ?_ fun r r1 r2 r3 _ => wpS_pure (h r _ hB' (by omega) r2 r3 ?_))
  · intro i j g1 g2 g3
    show K (mirror _ _ _ _) i ≤ K (mirror _ _ _ _) j
    rw [K_mirror hz, K_mirror hz, if_pos (by omega), if_pos (by omega)]
    exact hs _ _ (by omega) (by omega) (by omega)
  · intro i hi
    show K (mirror _ _ _ _) i = _
    rw [K_mirror hz, if_neg (by omega)]
theorem wpS_dwnL {lo n m : Nat} {Q : Option (Option Nat) × Nat × Nat → SortSt → Prop} (h0 : IntKeys g) (hm : lo + m ≤ g.size) (h1 : 1 ≤ n) (hnm : n ≤ m) (hB : SP g pd z) (hs : Dwn (arrOf z) lo (lo + n))
    (h : ∀ r eq z', SP g pd z' → n ≤ r → r ≤ m → Dwn (arrOf z') lo (lo + r) → eq + 1 ≤ r → (∀ i, lo + r - (eq + 1) ≤ i → i < lo + r → K (arrOf z') i = K (arrOf z') (lo + r - 1)) → Keep (arrOf z') (arrOf z) lo → Q (none, r, eq) z') :
    wpS (model prog w) A E s (dwnL lo n m) Q z := by
  unfold dwnL
  refine wpS_forRange (I := fun x c z' => ∃ eq, c = (none, x, eq) ∧ SP g pd z' ∧ Dwn (arrOf z') lo (lo + x) ∧ eq + 1 ≤ x ∧ (∀ i, lo + x - (eq + 1) ≤ i → i < lo + x → K (arrOf z') i = K (arrOf z') (lo + x - 1)) ∧ Keep (arrOf z') (arrOf z) lo) ?_ ?_
    ⟨0, rfl, hB, hs, by omega, fun i g1 g2 => by congr 1; omega, Keep.rf _ _⟩
  · rintro x c z' hax hxm ⟨eq, rfl, gB, gs, gq, ge, gk⟩
    dsimp only
    have hz : lo + x ≤ (arrOf z').size := by rw [gB.size]; omega
    refine wpS_bind (wpS_ltP gB h0 (by omega) (by omega) ?_)
    dsimp only
    have one : ∀ xs : Array Keyed, K xs (lo + x) ≤ K xs (lo + x - 1) → (∀ k, K xs k = K (arrOf z') k) → Dwn xs lo (lo + (x + 1)) := by
      intro xs c hk i j g1 g2 g3
      by_cases c2 : j < lo + x
      · rw [hk, hk]; exact gs i j g1 g2 c2
      · have ej : j = lo + x := by omega
        subst ej
        by_cases c3 : i = lo + x
        · subst c3; exact Int.le_refl _
        · refine Int.le_trans c ?_
          rw [hk, hk]
          exact gs i (lo + x - 1) g1 (by omega) (by omega)
    by_cases c : K (arrOf z') (lo + x) < K (arrOf z') (lo + x - 1)
    · rw [if_pos (decide_eq_true c)]
      by_cases d : eq > 0
      · rw [if_pos d]
        have sm := K_mirror_equal (i := lo + x - (eq + 1)) hz ge
        refine wpS_bind (wpS_reverse (wpS_pure ⟨0, rfl, gB.to (mirror_perm _ _ _ _), one _ ?_ sm, by omega, fun i g1 g2 => by congr 1; omega, fun i hi => ?_⟩))
        · show K (mirror _ _ _ _) _ ≤ K (mirror _ _ _ _) _
          rw [sm, sm]
          exact Int.le_of_lt c
        · exact (sm i).trans (gk i hi)
      · rw [if_neg d]
        exact wpS_pure ⟨0, rfl, gB, one _ (Int.le_of_lt c) (fun _ => rfl), by omega, fun i g1 g2 => by congr 1; omega, gk⟩
    · rw [if_neg (by simpa using c)]
      refine wpS_bind (wpS_ltP gB h0 (by omega) (by omega) ?_)
      dsimp only
      by_cases d : K (arrOf z') (lo + x - 1) < K (arrOf z') (lo + x)
      · rw [if_pos (decide_eq_true d)]
        exact wpS_pure (h x eq z' gB hax (by omega) gs gq ge gk)
      · rw [if_neg (by simpa using d)]
        have ex : K (arrOf z') (lo + x) = K (arrOf z') (lo + x - 1) := by omega
        refine wpS_pure ⟨eq + 1, rfl, gB, one _ (by omega) (fun _ => rfl), by omega, fun i g1 g2 => ?_, gk⟩
        have e1 : lo + (x + 1) - 1 = lo + x := by omega
        rw [e1]
        by_cases c3 : i = lo + x
        · subst c3; rfl
        · rw [ex]; exact ge i (by omega) (by omega)
  · rintro c z' ⟨eq, rfl, gB, gs, gq, ge, gk⟩
    have em : max n m = m := by omega
    rw [em] at gs gq ge ⊢
    exact h m eq z' gB hnm (Nat.le_refl _) gs gq ge gk
theorem wpS_dwnP {lo n m : Nat} {Q : Option Nat → SortSt → Prop} (h0 : IntKeys g) (hm : lo + m ≤ g.size) (hnm : n + 1 ≤ m) (hB : SP g pd z) (hs : Dwn (arrOf z) lo (lo + (n + 1)))
    (h : ∀ r z', SP g pd z' → 1 ≤ r → r ≤ m → Seg (arrOf z') lo (lo + r) → Keep (arrOf z') (arrOf z) lo → Q (some r) z') : wpS (model prog w) A E s (dwnP lo n m) Q z := by
  unfold dwnP
  refine wpS_bind (wpS_lift (wpAny_rule ⟨rfl, ?_⟩))
  refine wpS_bind (wpS_dwnL h0 hm (by omega) hnm hB hs fun r eq z' gB g1 g2 gs gq ge gk => ?_)
  dsimp only
  have hz : lo + r ≤ (arrOf z').size := by rw [gB.size]; omega
  by_cases d : eq > 0
  · rw [if_pos d]
    have sm := K_mirror_equal (i := lo + r - (eq + 1)) hz ge
    refine wpS_bind (wpS_reverse (wpS_tl3 h0 hm (by omega) g2 (gB.to (mirror_perm _ _ _ _)) ?_ fun r2 z2 f1 f2 f3 f4 f5 => h r2 z2 f1 f2 f3 f4 (f5.tr fun i hi => (sm i).trans (gk i hi))))
    intro i j f1 f2 f3
    show K (mirror _ _ _ _) j ≤ K (mirror _ _ _ _) i
    rw [sm, sm]
    exact gs i j f1 f2 f3
  · rw [if_neg d]
    exact wpS_tl3 h0 hm (by omega) g2 gB gs fun r2 z2 f1 f2 f3 f4 f5 => h r2 z2 f1 f2 f3 f4 (f5.tr gk)
theorem wpS_of_eq {α : Type} {p q : SM α} {Q : α → SortSt → Prop} {M : Model} (e : p = q) (h : wpS M A E s q Q z) : wpS M A E s p Q z := e ▸ h
theorem wpS_runAt {lo m : Nat} {Q : Option Nat → SortSt → Prop} (h0 : IntKeys g) (hm : lo + m ≤ g.size) (h1 : 1 ≤ m) (hB : SP g pd z)
    (h : ∀ r z', SP g pd z' → 1 ≤ r → r ≤ m → Seg (arrOf z') lo (lo + r) → Keep (arrOf z') (arrOf z) lo → Q (some r) z') : wpS (model prog w) A E s (countRun' lo m) Q z := by
  rw [countRun'_eq]
  have s1 : Seg (arrOf z) lo (lo + 1) := fun i j g1 g2 g3 => by
    have : i = j := by omega
    subst this; exact Int.le_refl _
  refine wpS_bind (show wpS _ _ _ _ (upL lo 1 m) _ _ from wpS_upL h0 hm (Nat.le_refl 1) h1 hB s1 fun n n1 n2 ns hor => ?_)
  dsimp only
  by_cases c : n = m
  · rw [if_pos (by simpa using c)]
    exact wpS_pure (h n z hB n1 n2 ns (Keep.rf _ _))
  rw [if_neg (by simpa using c)]
  have lt := hor.resolve_left c
  by_cases c2 : n > 1
  · rw [if_pos c2]
    refine wpS_bind (wpS_ltP hB h0 (by omega) (by omega) ?_)
    dsimp only
    by_cases c3 : K (arrOf z) lo < K (arrOf z) (lo + n - 1)
    · rw [if_pos (decide_eq_true c3)]
      exact wpS_pure (h n z hB n1 n2 ns (Keep.rf _ _))
    · rw [if_neg (by simpa using c3)]
      have hz : lo + n ≤ (arrOf z).size := by rw [hB.size]; omega
      have al : ∀ k, lo ≤ k → k < lo + n → K (arrOf z) k = K (arrOf z) (lo + n - 1) := fun k k1 k2 => by
        have a1 := ns lo k (Nat.le_refl _) k1 k2
        have a2 := ns k (lo + n - 1) k1 (by omega) (by omega)
        omega
      have sm := K_mirror_equal (i := lo) hz al
      refine wpS_bind (wpS_reverse (wpS_of_eq (q := dwnP lo n m) (by unfold dwnP tl3 dwnL upL; congr 1; funext _u; congr 1; funext c2; obtain ⟨r2, n2, q2⟩ := c2; cases r2; (dsimp only; split; (congr 1; funext _v; (congr 1; funext _w; congr 1; funext c3; obtain ⟨r3, n3⟩ := c3; cases r3 <;> rfl)); (congr 1; funext _w; congr 1; funext c3; obtain ⟨r3, n3⟩ := c3; cases r3 <;> rfl)); rfl) (wpS_dwnP h0 hm (by omega) (hB.to (mirror_perm _ _ _ _)) ?_ fun r2 z2 f1 f2 f3 f4 f5 => h r2 z2 f1 f2 f3 f4 (f5.tr fun i _ => sm i))))
      intro i j f1 f2 f3
      show K (mirror _ _ _ _) j ≤ K (mirror _ _ _ _) i
      rw [sm, sm]
      by_cases q : j < lo + n
      · rw [al i f1 (by omega), al j (by omega) q]; exact Int.le_refl _
      · have ej : j = lo + n := by omega
        subst ej
        by_cases q2 : i = lo + n
        · subst q2; exact Int.le_refl _
        · rw [al i f1 (by omega)]; exact Int.le_of_lt lt
  · rw [if_neg c2]
    have en : n = 1 := by omega
    subst en
    refine wpS_of_eq (q := dwnP lo 1 m) (by unfold dwnP tl3 dwnL upL; congr 1; funext _u; congr 1; funext c2; obtain ⟨r2, n2, q2⟩ := c2; cases r2; (dsimp only; split; (congr 1; funext _v; (congr 1; funext _w; congr 1; funext c3; obtain ⟨r3, n3⟩ := c3; cases r3 <;> rfl)); (congr 1; funext _w; congr 1; funext c3; obtain ⟨r3, n3⟩ := c3; cases r3 <;> rfl)); rfl) (wpS_dwnP h0 hm (by omega) hB ?_ h)
    intro i j f1 f2 f3
    by_cases q : i = j
    · subst q; exact Int.le_refl _
    · have e1 : i = lo := by omega
      have e2 : j = lo + 1 := by omega
      subst e1; subst e2
      exact Int.le_of_lt lt
theorem wpS_insAt {lo n ok : Nat} {Q : Bool → SortSt → Prop} (h0 : IntKeys g) (hm : lo + n ≤ g.size) (hok : ok ≤ n) (hB : SP g pd z) (hs : Seg (arrOf z) lo (lo + ok))
    (h : ∀ z', SP g pd z' → Seg (arrOf z') lo (lo + n) → Keep (arrOf z') (arrOf z) lo → Q true z') : wpS (model prog w) A E s (binarySort' lo n ok) Q z := by
  rw [binarySort'_eq]
  refine wpS_bind (wpS_mono (wpS_forRange (I := fun k c z' => c = (none, ()) ∧ SP g pd z' ∧ Seg (arrOf z') lo (lo + min k n) ∧ Keep (arrOf z') (arrOf z) lo)
    (Q := fun c z' => c = (none, ()) ∧ SP g pd z' ∧ Seg (arrOf z') lo (lo + n) ∧ Keep (arrOf z') (arrOf z) lo) ?_ ?_ ⟨rfl, hB, fun i j g1 g2 g3 => ?_, Keep.rf _ _⟩) ?_)
  · rintro k c z' hak hkn ⟨rfl, gB, gs, gk⟩
    have em : min k n = k := by omega
    rw [em] at gs
    refine wpS_bind (wpS_mono (wpS_forRange (I := fun x c z2 => z2 = z' ∧ ∃ l r, c = (none, l, r) ∧ l ≤ r ∧ r ≤ k ∧ r - l ≤ k - x ∧ (∀ i, lo ≤ i → i < lo + l → K (arrOf z') i ≤ K (arrOf z') (lo + k)) ∧ (∀ i, lo + r ≤ i → i < lo + k → K (arrOf z') (lo + k) < K (arrOf z') i))
      (Q := fun c z2 => z2 = z' ∧ ∃ l r, c = (none, l, r) ∧ l ≤ k ∧ (∀ i, lo ≤ i → i < lo + l → K (arrOf z') i ≤ K (arrOf z') (lo + k)) ∧ (∀ i, lo + l ≤ i → i < lo + k → K (arrOf z') (lo + k) < K (arrOf z') i)) ?_ ?_
      ⟨rfl, 0, k, rfl, by omega, by omega, by omega, fun i _ _ => by omega, fun i _ _ => by omega⟩) ?_)
    · rintro x c z2 _ hx ⟨rfl, l, r, rfl, a1, a2, a3, a4, a5⟩
      dsimp only
      by_cases d : l ≥ r
      · rw [if_pos d]
        have e : l = r := by omega
        subst e
        exact wpS_pure ⟨rfl, l, l, rfl, a2, a4, a5⟩
      · rw [if_neg d]
        refine wpS_bind (wpS_ltP gB h0 (by omega) (by omega) ?_)
        dsimp only
        by_cases c : K (arrOf z2) (lo + k) < K (arrOf z2) (lo + (l + r) / 2)
        · rw [if_pos (decide_eq_true c)]
          exact wpS_pure ⟨rfl, l, (l + r) / 2, rfl, by omega, by omega, by omega, a4, fun i g1 g2 => Int.lt_of_lt_of_le c (gs _ _ (by omega) g1 g2)⟩
        · rw [if_neg (by simpa using c)]
          exact wpS_pure ⟨rfl, (l + r) / 2 + 1, r, rfl, by omega, by omega, by omega, fun i g1 g2 => Int.le_trans (gs i (lo + (l + r) / 2) g1 (by omega) (by omega)) (Int.not_lt.mp c), a5⟩
    · rintro c z2 ⟨rfl, l, r, rfl, a1, a2, a3, a4, a5⟩
      have e : l = r := by omega
      subst e
      exact ⟨rfl, l, l, rfl, a2, a4, a5⟩
    · rintro c z2 ⟨rfl, l, r, rfl, a2, a4, a5⟩
      show wpS _ _ _ _ (do moveDown' (lo + k) (lo + l); pure (ForInStep.yield (none, ()))) _ _
      rw [moveDown'_eq]
      have hz : lo + k < (arrOf z2).size := by rw [gB.size]; omega
      have e2 : lo + k - (lo + l) = k - l := by omega
      have e3 : lo + k - (k - l) = lo + l := by omega
      have em2 : min (k + 1) n = k + 1 := by omega
      refine wpS_bind (wpS_modify (wpS_pure ⟨rfl, gB.to (bubble_perm _ _ _), ?_, ?_⟩))
      · rw [em2]
        intro i j g1 g2 g3
        show K (bubble (arrOf z2) _ _) i ≤ K (bubble (arrOf z2) _ _) j
        rw [e2, K_bubble hz (by omega), K_bubble hz (by omega), e3]
        repeat' split
        all_goals first
          | (exfalso; omega)
          | exact Int.le_refl _
          | exact a4 _ (by omega) (by omega)
          | exact Int.le_of_lt (a5 _ (by omega) (by omega))
          | exact gs _ _ (by omega) (by omega) (by omega)
      · intro i hi
        show K (bubble (arrOf z2) _ _) i = _
        rw [e2, K_bubble hz (by omega), e3, if_neg (by omega), if_neg (by omega)]
        exact gk i hi
  · rintro c z' ⟨rfl, gB, gs, gk⟩
    have em : min (max (max ok 1) n) n = n := by omega
    rw [em] at gs
    exact ⟨rfl, gB, gs, gk⟩
  · by_cases c : ok = 0
    · have : i = j := by omega
      subst this; exact Int.le_refl _
    · exact hs i j g1 g2 (by omega)
  · rintro c z' ⟨rfl, gB, gs, gk⟩
    exact wpS_pure (h z' gB gs gk)
end
end S64
namespace S64
open PySem PyProof.Rows
theorem mergeAt'_eq (i : Nat) : mergeAt' i = (do
  let z ← get
  let (some (sa, na, pw), some (sb, nb, _)) := ((pendingOf z)[i]?, (pendingOf z)[i + 1]?) | unsupported "internal:list.sort.pending"
  set (setPending z (((pendingOf z).setIfInBounds i (sa, na + nb, pw)).eraseIdxIfInBounds (i + 1)))
  let some k ← gallop' false (← elem' (arrOf z) sb) (arrOf z) sa na 0 | return false
  let (sa, na) := (sa + k, na - k)
  if na == 0 then return true
  let some nb ← gallop' true (← elem' (arrOf z) (sa + na - 1)) (arrOf z) sb nb (nb - 1) | return false
  if nb == 0 then return true
  let u := (arrOf z).extract sa sb
  let v := (arrOf z).extract sb (sb + nb)
  let r ← if na ≤ nb then mergeLo' u v else mergeHi' u v
  modify fun z => setArr z (r.toList.zipIdx.foldl (fun a (p, j) => a.setIfInBounds (sa + j) p) (arrOf z))
  return (failedOf (← get)).isNone) := rfl
theorem put_all (sa : Nat) : ∀ (r : List Keyed) (n : Nat) (xs : Array Keyed), sa + n + r.length ≤ xs.size →
    ((r.zipIdx n).foldl (fun a (p : Keyed × Nat) => a.setIfInBounds (sa + p.2) p.1) xs).toList = xs.toList.take (sa + n) ++ r ++ xs.toList.drop (sa + n + r.length)
  | [], n, xs, h => by
    show xs.toList = _
    rw [List.append_nil, List.length_nil, Nat.add_zero, List.take_append_drop]
  | x :: r, n, xs, h => by
    rw [List.zipIdx_cons, List.foldl_cons]
    rw [List.length_cons] at h ⊢
    rw [put_all sa r (n + 1) _ (by simp; omega)]
    have hl : sa + n < xs.toList.length := by simp; omega
    have e : (xs.setIfInBounds (sa + n) x).toList = xs.toList.take (sa + n) ++ x :: xs.toList.drop (sa + n + 1) := by
      rw [Array.toList_setIfInBounds, List.set_eq_take_append_cons_drop, if_pos hl]
    have lt : (xs.toList.take (sa + n)).length = sa + n := by rw [List.length_take]; omega
    show (xs.setIfInBounds (sa + n) x).toList.take (sa + (n + 1)) ++ r ++ (xs.setIfInBounds (sa + n) x).toList.drop (sa + (n + 1) + r.length) = _
    rw [e]
    have t1 : (xs.toList.take (sa + n) ++ x :: xs.toList.drop (sa + n + 1)).take (sa + (n + 1)) = xs.toList.take (sa + n) ++ [x] := by
      have : sa + (n + 1) = (xs.toList.take (sa + n)).length + 1 := by rw [lt]; omega
      rw [this, List.take_length_add_append]
      rfl
    have t2 : (xs.toList.take (sa + n) ++ x :: xs.toList.drop (sa + n + 1)).drop (sa + (n + 1) + r.length) = xs.toList.drop (sa + n + (r.length + 1)) := by
      have : sa + (n + 1) + r.length = (xs.toList.take (sa + n)).length + (r.length + 1) := by rw [lt]; omega
      rw [this, List.drop_length_add_append, List.drop_succ_cons, List.drop_drop]
      congr 1
      omega
    rw [t1, t2, List.append_assoc, List.append_assoc, List.append_assoc]
    rfl
theorem ext_pw {xs : Array Keyed} {lo e : Nat} (h : Seg xs lo e) (he : e ≤ xs.size) : (xs.extract lo e).toList.Pairwise fun x y => kv x ≤ kv y := by
  rw [List.pairwise_iff_getElem]
  intro i j hi hj hij
  have e1 : (xs.extract lo e).toList.length = e - lo := by simp; omega
  rw [e1] at hi hj
  have hh := h (lo + i) (lo + j) (by omega) (by omega) (by omega)
  rw [← kv_at (by omega), ← kv_at (by omega)] at hh
  simpa using hh
theorem ext_in {xs : Array Keyed} {lo e : Nat} {x : Keyed} (he : lo ≤ e) (h : x ∈ (xs.extract lo e).toList) : ∃ t, lo ≤ t ∧ t < e ∧ t < xs.size ∧ kv x = K xs t := by
  have e0 : lo + (e - lo) = e := by omega
  rw [← e0] at h
  obtain ⟨t, h1, h2, h3⟩ := ext_mem h
  exact ⟨lo + t, by omega, by omega, h2, h3⟩
theorem sorted_of_pw {xs : Array Keyed} (h : xs.toList.Pairwise fun x y => kv x ≤ kv y) : SortedTo xs xs.size := by
  intro i j hij hj
  by_cases c : i = j
  · subst c; exact Int.le_refl _
  · have := List.pairwise_iff_getElem.mp h i j (by simp; omega) (by simpa using hj) (by omega)
    rw [← kv_at (by omega), ← kv_at hj]
    simpa using this
theorem K_ext {xs : Array Keyed} {lo e i : Nat} (he : e ≤ xs.size) (h : lo + i < e) : K (xs.extract lo e) i = K xs (lo + i) := by
  refine K_congr ?_
  rw [Array.getElem?_extract]
  rw [if_pos (by omega)]
theorem ext_size {xs : Array Keyed} {lo e : Nat} (he : e ≤ xs.size) : (xs.extract lo e).size = e - lo := by
  rw [Array.size_extract, Nat.min_eq_left he]
theorem ext_ints {xs : Array Keyed} {lo e : Nat} (h : IntKeys xs) : IntKeys (xs.extract lo e) := by
  intro p hp
  refine h p ?_
  rw [ext_list] at hp
  exact List.mem_of_mem_drop (List.mem_of_mem_take hp)
theorem ext_sorted {xs : Array Keyed} {lo e : Nat} (h : Seg xs lo e) (he : e ≤ xs.size) : SortedTo (xs.extract lo e) (xs.extract lo e).size := sorted_of_pw (ext_pw h he)
section
variable {prog : Program} {w : World} {A : Around} {E : Value → Shared → Prop} {s : Shared}
theorem wpS_set {σ : Type} {M : Model} {Q : PUnit → σ → Prop} {st st2 : σ} (h : Q ⟨⟩ st2) : wpS M A E s (set st2 : StateT σ Sem PUnit) Q st := by
  unfold wpS; rw [StateT.run_set]; exact wpAny_pure ⟨rfl, h⟩
theorem wpS_gsT {st : SortSt} {key : Keyed} {arr : Array Keyed} {at0 n h : Nat} {k : Int} {t : Tok} {Q : Option Nat → SortSt → Prop} (hk : kindOf st = oneType') (ha : IntKeys arr) (hy : key.1 = .int k t) (sb : Seg arr at0 (at0 + n)) (hn : at0 + n ≤ arr.size) (hh : h < n)
    (hQ : ∀ r, r ≤ n → (∀ i, i < r → K arr (at0 + i) < k) → (∀ i, r ≤ i → i < n → k ≤ K arr (at0 + i)) → Q (some r) st) : wpS (model prog w) A E s (gallop' true key arr at0 n h) Q st := by
  refine wpS_gallop hk ha hy hn hh (fun i j hij hj c => ?_) fun r h1 h2 h3 => hQ r h1 (fun i hi => ?_) (fun i hi hi2 => ?_)
  · rw [B_true] at c ⊢
    have c := of_decide_eq_true c
    exact decide_eq_true (Int.lt_of_le_of_lt (sb _ _ (by omega) (by omega) (by omega)) c)
  · exact of_decide_eq_true (h2 i hi)
  · exact Int.not_lt.mp (of_decide_eq_false (h3 i hi hi2))
theorem wpS_gsF {st : SortSt} {key : Keyed} {arr : Array Keyed} {at0 n h : Nat} {k : Int} {t : Tok} {Q : Option Nat → SortSt → Prop} (hk : kindOf st = oneType') (ha : IntKeys arr) (hy : key.1 = .int k t) (sb : Seg arr at0 (at0 + n)) (hn : at0 + n ≤ arr.size) (hh : h < n)
    (hQ : ∀ r, r ≤ n → (∀ i, i < r → K arr (at0 + i) ≤ k) → (∀ i, r ≤ i → i < n → k < K arr (at0 + i)) → Q (some r) st) : wpS (model prog w) A E s (gallop' false key arr at0 n h) Q st := by
  refine wpS_gallop hk ha hy hn hh (fun i j hij hj c => ?_) fun r h1 h2 h3 => hQ r h1 (fun i hi => ?_) (fun i hi hi2 => ?_)
  · rw [B_false] at c ⊢
    have c := of_decide_eq_false (by simpa using c : decide (k < K arr (at0 + j)) = false)
    have := sb (at0 + i) (at0 + j) (by omega) (by omega) (by omega)
    have : ¬ k < K arr (at0 + i) := by omega
    simp [this]
  · have := h2 i hi
    rw [B_false] at this
    exact Int.not_lt.mp (of_decide_eq_false (by simpa using this))
  · have := h3 i hi hi2
    rw [B_false] at this
    exact of_decide_eq_true (by simpa using this)
variable {g : Array Keyed}
theorem wpS_mergeTwo {z : SortSt} {n m pw : Nat} {Q : Bool → SortSt → Prop} (h0 : IntKeys g) (n0 : 0 < n) (m0 : 0 < m) (hs : n + m = g.size) (hB : SP g #[(0, n, pw), (n, m, 0)] z) (s1 : Seg (arrOf z) 0 n) (s2 : Seg (arrOf z) n (n + m))
    (h : ∀ z', SP g #[(0, n + m, pw)] z' → SortedTo (arrOf z') g.size → Q true z') : wpS (model prog w) A E s (mergeAt' 0) Q z := by
  rw [mergeAt'_eq]
  refine wpS_bind (wpS_get ?_)
  have hz := hB.size
  have hI := hB.ints h0
  rw [hB.pend]
  dsimp only
  show wpS _ _ _ _ (set _ >>= _) _ _
  refine wpS_bind (wpS_set ?_)
  have hB1 : SP g #[(0, n + m, pw)] (setPending z #[(0, n + m, pw)]) := ⟨hB.perm, hB.kind, hB.failed, rfl⟩
  have ep : ((#[(0, n, pw), (n, m, 0)] : Array (Nat × Nat × Nat)).setIfInBounds 0 (0, n + m, pw)).eraseIdxIfInBounds (0 + 1) = #[(0, n + m, pw)] := by
    rw [← Array.toList_inj]
    simp [Array.eraseIdxIfInBounds]
  rw [ep]
  have q0 : n < (arrOf z).size := by omega
  obtain ⟨t1, _, e1⟩ := ints_at hI q0
  refine wpS_bind (wpS_elem q0 (wpS_bind (wpS_gsF (st := setPending z #[(0, n + m, pw)]) hB.kind hI e1 (by rw [Nat.zero_add]; exact s1) (by omega) n0 fun k k1 k2 k3 => ?_)))
  dsimp only
  rw [Nat.zero_add]
  have k2 : ∀ i, i < k → K (arrOf z) i ≤ K (arrOf z) n := fun i hi => by have := k2 i hi; rwa [Nat.zero_add] at this
  have k3 : ∀ i, k ≤ i → i < n → K (arrOf z) n < K (arrOf z) i := fun i h1 hi => by have := k3 i h1 hi; rwa [Nat.zero_add] at this
  by_cases c1 : n - k = 0
  · rw [if_pos (by simpa using c1)]
    refine wpS_pure (h _ hB1 fun i j hij hj => ?_)
    show K (arrOf z) i ≤ K (arrOf z) j
    by_cases d1 : j < n
    · exact s1 i j (Nat.zero_le _) hij d1
    · by_cases d2 : i < n
      · exact Int.le_trans (k2 i (by omega)) (s2 n j (Nat.le_refl _) (by omega) (by omega))
      · exact s2 i j (by omega) hij (by omega)
  rw [if_neg (by simpa using c1)]
  have e0 : k + (n - k) - 1 = n - 1 := by omega
  rw [e0]
  have q1 : n - 1 < (arrOf z).size := by omega
  obtain ⟨t2, _, e2⟩ := ints_at hI q1
  refine wpS_bind (wpS_elem q1 (wpS_bind (wpS_gsT (st := setPending z #[(0, n + m, pw)]) hB.kind hI e2 s2 (by omega) (by omega) fun j j1 j2 j3 => ?_)))
  dsimp only
  have lst := k3 (n - 1) (by omega) (by omega)
  have jpos : 0 < j := by
    rcases Nat.eq_zero_or_pos j with rfl | c
    · have := j3 0 (Nat.le_refl _) m0
      rw [Nat.add_zero] at this
      omega
    · exact c
  rw [if_neg (by have : j ≠ 0 := by omega
                 simpa using this)]
  have sx : Seg (arrOf z) k n := fun i j' h1 h2 h3 => s1 i j' (Nat.zero_le _) h2 h3
  have sy : Seg (arrOf z) n (n + j) := fun i j' h1 h2 h3 => s2 i j' h1 h2 (by omega)
  have zx : ((arrOf z).extract k n).size = n - k := ext_size (by omega)
  have zy : ((arrOf z).extract n (n + j)).size = n + j - n := ext_size (by omega)
  have p1 : K ((arrOf z).extract n (n + j)) 0 < K ((arrOf z).extract k n) 0 := by
    rw [K_ext (by omega) (by omega), K_ext (by omega) (by omega)]
    exact k3 k (Nat.le_refl _) (by omega)
  have p2 : ∀ t, t < ((arrOf z).extract n (n + j)).size → K ((arrOf z).extract n (n + j)) t < K ((arrOf z).extract k n) (((arrOf z).extract k n).size - 1) := fun t ht => by
    rw [zx, K_ext (by omega) (by omega), K_ext (by omega) (by omega)]
    have e : k + (n - k - 1) = n - 1 := by omega
    rw [e]
    exact j2 t (by omega)
  have fin : ∀ (r : Array Keyed) (v : Nat), r.toList = mer ((arrOf z).extract k n).toList ((arrOf z).extract n (n + j)).toList →
      wpS (model prog w) A E s (do
        modify fun z => setArr z (r.toList.zipIdx.foldl (fun a (p : Keyed × Nat) => a.setIfInBounds (k + p.2) p.1) (arrOf z))
        return (failedOf (← get)).isNone) Q (setG (setPending z #[(0, n + m, pw)]) v) := fun r v er => by
    refine wpS_bind (wpS_modify (wpS_bind (wpS_get (wpS_pure ?_))))
    have len : r.toList.length = n - k + j := by
      have := (mer_perm ((arrOf z).extract k n).toList ((arrOf z).extract n (n + j)).toList).length_eq
      rw [er, this, List.length_append, Array.length_toList, Array.length_toList, zx, zy]
      omega
    have whole := put_all k r.toList 0 (arrOf z) (by omega)
    have e3 : k + 0 + r.toList.length = n + j := by omega
    rw [e3, Nat.add_zero, ← ext_zero, ← ext_all, er] at whole
    have parts : (arrOf z).toList = ((arrOf z).extract 0 k).toList ++ (((arrOf z).extract k n).toList ++ ((arrOf z).extract n (n + j)).toList) ++ ((arrOf z).extract (n + j) (arrOf z).size).toList := by
      rw [ext_all, ext_zero, ← List.append_assoc, ← take_split _ k1, ← take_split _ (Nat.le_add_right n j), List.take_append_drop]
    have f0 : (failedOf z).isNone = true := by rw [hB.failed]; rfl
    have sorted : (((arrOf z).extract 0 k).toList ++ mer ((arrOf z).extract k n).toList ((arrOf z).extract n (n + j)).toList ++ ((arrOf z).extract (n + j) (arrOf z).size).toList).Pairwise fun x y => kv x ≤ kv y := by
      have le1 : ∀ t, k ≤ t → t < n + j → ∀ i, i < k → K (arrOf z) i ≤ K (arrOf z) t := fun t h1 h2 i hi => by
        by_cases c : t < n
        · exact s1 i t (Nat.zero_le _) (by omega) c
        · exact Int.le_trans (k2 i hi) (s2 n t (Nat.le_refl _) (by omega) (by omega))
      have le2 : ∀ t, n + j ≤ t → t < n + m → ∀ i, i < n + j → K (arrOf z) i ≤ K (arrOf z) t := fun t h1 h2 i hi => by
        by_cases c : i < n
        · have b1 := j3 (t - n) (by omega) (by omega)
          have b2 : n + (t - n) = t := by omega
          rw [b2] at b1
          exact Int.le_trans (s1 i (n - 1) (Nat.zero_le _) (by omega) (by omega)) b1
        · exact s2 i t (by omega) (by omega) h2
      have inM : ∀ x ∈ mer ((arrOf z).extract k n).toList ((arrOf z).extract n (n + j)).toList, ∃ t, k ≤ t ∧ t < n + j ∧ kv x = K (arrOf z) t := fun x hx => by
        rcases List.mem_append.mp ((mer_perm _ _).mem_iff.mp hx) with hx | hx
        · obtain ⟨t, b1, b2, b3, b4⟩ := ext_in k1 hx
          exact ⟨t, b1, by omega, b4⟩
        · obtain ⟨t, b1, b2, b3, b4⟩ := ext_in (Nat.le_add_right n j) hx
          exact ⟨t, by omega, b2, b4⟩
      refine List.pairwise_append.mpr ⟨List.pairwise_append.mpr ⟨ext_pw (fun i j' h1 h2 h3 => s1 i j' h1 h2 (by omega)) (by omega), mer_sorted (ext_pw sx (by omega)) (ext_pw sy (by omega)), fun x hx y hy => ?_⟩, ext_pw (fun i j' h1 h2 h3 => s2 i j' (by omega) h2 (by omega)) (Nat.le_refl _), fun x hx y hy => ?_⟩
      · obtain ⟨t, b1, b2, b3, b4⟩ := ext_in (Nat.zero_le k) hx
        obtain ⟨u, d1, d2, d3⟩ := inM y hy
        rw [b4, d3]
        exact le1 u d1 d2 t b2
      · obtain ⟨u, d1, d2, d3, d4⟩ := ext_in (by omega) hy
        rw [d4]
        rcases List.mem_append.mp hx with hx | hx
        · obtain ⟨t, b1, b2, b3, b4⟩ := ext_in (Nat.zero_le k) hx
          rw [b4]
          exact le2 u d1 (by omega) t (by omega)
        · obtain ⟨t, b1, b2, b3⟩ := inM x hx
          rw [b3]
          exact le2 u d1 (by omega) t b2
    have pm : (r.toList.zipIdx.foldl (fun a (p : Keyed × Nat) => a.setIfInBounds (k + p.2) p.1) (arrOf z)).Perm (arrOf z) := by
      rw [Array.perm_iff_toList_perm]
      rw [er, whole, parts]
      exact ((mer_perm _ _).append_left _).append_right _
    have st2 : SortedTo (r.toList.zipIdx.foldl (fun a (p : Keyed × Nat) => a.setIfInBounds (k + p.2) p.1) (arrOf z)) g.size := by
      have := sorted_of_pw (xs := r.toList.zipIdx.foldl (fun a (p : Keyed × Nat) => a.setIfInBounds (k + p.2) p.1) (arrOf z)) (by
        rw [er, whole]
        exact sorted)
      rwa [pm.size_eq, hz] at this
    have res := h (setArr (setG (setPending z #[(0, n + m, pw)]) v) (r.toList.zipIdx.foldl (fun a (p : Keyed × Nat) => a.setIfInBounds (k + p.2) p.1) (arrOf z))) ⟨pm.trans hB.perm, hB.kind, hB.failed, rfl⟩ st2
    show Q ((failedOf z).isNone) _
    rw [f0]
    exact res
  refine wpS_ite (fun _ => ?_) (fun _ => ?_)
  · exact wpS_bind (wpS_mergeLo (st := setPending z #[(0, n + m, pw)]) hB.kind (ext_ints hI) (ext_ints hI) (ext_sorted sx (by omega)) (ext_sorted sy (by omega)) (by omega) (by omega) p1 p2 fin)
  · exact wpS_bind (wpS_mergeHi (st := setPending z #[(0, n + m, pw)]) hB.kind (ext_ints hI) (ext_ints hI) (ext_sorted sx (by omega)) (ext_sorted sy (by omega)) (by omega) (by omega) p1 p2 fin)
end
end S64
namespace S64
open PySem PyProof.Rows
section
variable {prog : Program} {w : World} {A : Around} {E : Value → Shared → Prop} {s : Shared} {g : Array Keyed}
def Two (g : Array Keyed) (z : SortSt) : Prop := (SP g #[(0, 64, 0)] z ∧ Seg (arrOf z) 0 64) ∨ ∃ n m pw, 0 < n ∧ 0 < m ∧ n + m = 64 ∧ SP g #[(0, n, pw), (n, m, 0)] z ∧ Seg (arrOf z) 0 n ∧ Seg (arrOf z) n (n + m)
theorem wpS_runs64 {z : SortSt} {Q : Unit → SortSt → Prop} (h0 : IntKeys g) (hB : SBase g z) (hg : g.size = 64)
    (h : ∀ z', (arrOf z').Perm g → failedOf z' = none → SortedTo (arrOf z') g.size → Q () z') : wpS (model prog w) A E s sortRuns' Q z := by
  rw [sortRuns'_eq]
  refine wpS_bind (wpS_get ?_)
  have m32 : minRun' 64 64 0 = 32 := rfl
  dsimp only
  rw [hB.size, hg, m32]
  refine wpS_bind (wpS_mono (wpS_forRange
    (I := fun x c z' => (x = 0 ∧ c = (none, 0) ∧ SP g #[] z') ∨ (x = 1 ∧ ∃ n, c = (none, n) ∧ 32 ≤ n ∧ n ≤ 64 ∧ SP g #[(0, n, 0)] z' ∧ Seg (arrOf z') 0 n) ∨ (2 ≤ x ∧ c = (none, 64) ∧ Two g z'))
    (Q := fun c z' => c = (none, 64) ∧ Two g z') ?step ?fin (.inl ⟨rfl, rfl, ⟨hB.perm, hB.kind, hB.failed, hB.pend⟩⟩)) ?post)
  case fin =>
    rintro c z' (⟨hx, _⟩ | ⟨hx, _⟩ | ⟨_, h1, h2⟩)
    · omega
    · omega
    · exact ⟨h1, h2⟩
  case step =>
    rintro x c z' _ hx (⟨rfl, rfl, gB⟩ | ⟨rfl, n, rfl, n1, n2, gB, gs⟩ | ⟨hx2, rfl, hT⟩)
    · dsimp only
      rw [if_neg (by omega)]
      refine wpS_bind (wpS_runAt (m := 64 - 0) h0 (by omega) (by omega) gB fun r z2 fB f1 f2 fs _ => ?_)
      dsimp only
      rw [Nat.zero_add] at fs
      refine wpS_ite (fun c => ?_) (fun c => ?_)
      · refine wpS_bind (wpS_lift (wpAny_rule ⟨rfl, ?_⟩))
        refine wpS_bind (wpS_insAt h0 (by omega) (by omega) fB (by rw [Nat.zero_add]; exact fs) fun z3 eB es _ => ?_)
        refine wpS_ite (fun q => by cases q) (fun _ => ?_)
        refine wpS_bind (wpS_get ?_)
        have hb : (pendingOf z3).back? = none := by rw [eB.pend]; rfl
        rw [hb]
        dsimp only
        refine wpS_bind (wpS_modify (wpS_pure (.inr (.inl ⟨rfl, 32, rfl, by decide, by decide, ⟨eB.perm, eB.kind, eB.failed, ?_⟩, ?_⟩))))
        · show (pendingOf z3).push _ = _
          rw [eB.pend]
          rfl
        · exact fun i j e1 e2 e3 => es i j e1 e2 (by omega)
      · refine wpS_bind (wpS_get ?_)
        have hb : (pendingOf z2).back? = none := by rw [fB.pend]; rfl
        rw [hb]
        dsimp only
        refine wpS_bind (wpS_modify (wpS_pure (.inr (.inl ⟨rfl, r, ?_, by omega, by omega, ⟨fB.perm, fB.kind, fB.failed, ?_⟩, fs⟩))))
        · rw [Nat.zero_add]
        · show (pendingOf z2).push _ = _
          rw [fB.pend]
          rfl
    · dsimp only
      by_cases c : n ≥ 64
      · rw [if_pos c]
        have e : n = 64 := by omega
        subst e
        exact wpS_pure ⟨rfl, .inl ⟨gB, gs⟩⟩
      rw [if_neg c]
      have tail : ∀ z3, SP g #[(0, n, 0)] z3 → Seg (arrOf z3) n (n + (64 - n)) → Keep (arrOf z3) (arrOf z') n → ∀ pw, Two g (setPending (setPending z3 ((pendingOf z3).modify ((pendingOf z3).size - 1) fun (q : Nat × Nat × Nat) => (q.1, q.2.1, pw))) (((pendingOf z3).modify ((pendingOf z3).size - 1) fun (q : Nat × Nat × Nat) => (q.1, q.2.1, pw)).push (n, 64 - n, 0))) := fun z3 b1 b2 b3 pw =>
        .inr ⟨n, 64 - n, pw, by omega, by omega, by omega, ⟨b1.perm, b1.kind, b1.failed, by
          show ((pendingOf z3).modify ((pendingOf z3).size - 1) _).push _ = _
          rw [b1.pend]
          rfl⟩, fun i j e1 e2 e3 => by
            show K (arrOf z3) i ≤ K (arrOf z3) j
            rw [b3 i (by omega), b3 j e3]
            exact gs i j e1 e2 e3, b2⟩
      refine wpS_bind (wpS_runAt (m := 64 - n) h0 (by omega) (by omega) gB fun r z2 fB f1 f2 fs fk => ?_)
      dsimp only
      have ee : n + (64 - n) = 64 := by omega
      have em : min (64 - n) 32 = 64 - n := by omega
      rw [em]
      refine wpS_ite (fun c => ?_) (fun c => ?_)
      · refine wpS_bind (wpS_lift (wpAny_rule ⟨rfl, ?_⟩))
        refine wpS_bind (wpS_insAt h0 (by omega) f2 fB fs fun z3 eB es ek => ?_)
        refine wpS_ite (fun q => by cases q) (fun _ => ?_)
        refine wpS_bind (wpS_get ?_)
        have hb : (pendingOf z3).back? = some (0, n, 0) := by rw [eB.pend]; rfl
        rw [hb]
        dsimp only
        refine wpS_bind (wpS_mono (wpS_forRange (I := fun y c z4 => y = 0 ∧ c = (none, ()) ∧ z4 = z3) (Q := fun c z4 => c = (none, ()) ∧ z4 = z3) ?_ ?_ ⟨rfl, rfl, rfl⟩) ?_)
        · rintro y c z4 _ _ ⟨rfl, rfl, rfl⟩
          refine wpS_bind (wpS_get ?_)
          have h1 : ¬ (pendingOf z4).size > 1 := by rw [eB.pend]; exact Nat.lt_irrefl 1
          rw [if_neg h1]
          exact wpS_pure ⟨rfl, rfl⟩
        · rintro c z4 ⟨e, _⟩
          exact absurd e (by decide)
        · rintro c z4 ⟨rfl, rfl⟩
          exact wpS_bind (wpS_modify (wpS_bind (wpS_modify (wpS_pure (.inr (.inr ⟨by decide, by rw [ee], tail _ eB es (ek.tr fk) _⟩))))))
      · have er : r = 64 - n := by omega
        subst er
        refine wpS_bind (wpS_get ?_)
        have hb : (pendingOf z2).back? = some (0, n, 0) := by rw [fB.pend]; rfl
        rw [hb]
        dsimp only
        refine wpS_bind (wpS_mono (wpS_forRange (I := fun y c z4 => y = 0 ∧ c = (none, ()) ∧ z4 = z2) (Q := fun c z4 => c = (none, ()) ∧ z4 = z2) ?_ ?_ ⟨rfl, rfl, rfl⟩) ?_)
        · rintro y c z4 _ _ ⟨rfl, rfl, rfl⟩
          refine wpS_bind (wpS_get ?_)
          have h1 : ¬ (pendingOf z4).size > 1 := by rw [fB.pend]; exact Nat.lt_irrefl 1
          rw [if_neg h1]
          exact wpS_pure ⟨rfl, rfl⟩
        · rintro c z4 ⟨e, _⟩
          exact absurd e (by decide)
        · rintro c z4 ⟨rfl, rfl⟩
          exact wpS_bind (wpS_modify (wpS_bind (wpS_modify (wpS_pure (.inr (.inr ⟨by decide, by rw [ee], tail _ fB fs fk _⟩))))))
    · dsimp only
      rw [if_pos (Nat.le_refl _)]
      exact wpS_pure ⟨rfl, hT⟩
  case post =>
    rintro c z' ⟨rfl, hT⟩
    dsimp only
    refine wpS_bind (wpS_mono (wpS_forRange (I := fun x c z2 => c = (none, ()) ∧ ((x = 0 ∧ Two g z2) ∨ ∃ pw, SP g #[(0, 64, pw)] z2 ∧ SortedTo (arrOf z2) g.size))
      (Q := fun c z2 => c = (none, ()) ∧ ∃ pw, SP g #[(0, 64, pw)] z2 ∧ SortedTo (arrOf z2) g.size) ?_ ?_ ⟨rfl, .inl ⟨rfl, hT⟩⟩) ?_)
    · have one : ∀ z2 pw, SP g #[(0, 64, pw)] z2 → (pendingOf z2).size ≤ 1 := fun z2 pw e => by rw [e.pend]; exact Nat.le_refl 1
      rintro x c z2 _ _ ⟨rfl, (⟨rfl, (⟨b1, b2⟩ | ⟨n, m, pw, n0, m0, e, b1, b2, b3⟩)⟩ | ⟨pw, b1, b2⟩)⟩
      · refine wpS_bind (wpS_get ?_)
        rw [if_pos (one _ _ b1)]
        exact wpS_pure ⟨rfl, 0, b1, fun i j e1 e2 => b2 i j (Nat.zero_le _) e1 (by omega)⟩
      · refine wpS_bind (wpS_get ?_)
        have sz : (pendingOf z2).size = 2 := by rw [b1.pend]; rfl
        rw [sz]
        rw [if_neg (by decide)]
        refine wpS_bind (wpS_mergeTwo h0 n0 m0 (by omega) b1 b2 b3 fun z3 f1 f2 => ?_)
        refine wpS_ite (fun q => by cases q) (fun _ => ?_)
        rw [e] at f1
        exact wpS_pure ⟨rfl, .inr ⟨pw, f1, f2⟩⟩
      · refine wpS_bind (wpS_get ?_)
        rw [if_pos (one _ _ b1)]
        exact wpS_pure ⟨rfl, pw, b1, b2⟩
    · rintro c z2 ⟨rfl, (⟨e, _⟩ | e)⟩
      · exact absurd e (by decide)
      · exact ⟨rfl, e⟩
    · rintro c z2 ⟨rfl, pw, b1, b2⟩
      exact wpS_pure (h z2 b1.perm b1.failed b2)
end
end S64
namespace S64
open PySem PyProof PyProof.Rows
section
variable {prog : Program} {w : World} {A : Around} {E : Value → Shared → Prop} {s : Shared}
theorem tree64 {l : Addr} {us : List Value} {ks : List Int} {c : Nat} {P : Fin → Shared → Prop} (hl : s.heap.get? l = some (seqObj "list" us.toArray c)) (hI : IntsAre us ks) (h64 : us.length = 64)
    (h : ∀ (o : Array Value) (ms : List Int), IntsAre o.toList ms → ms.Perm ks → ms.Pairwise (· ≤ ·) → P (.done (.ret .none)) { s with heap := sortedHeap s.heap l us o }) :
    wpAny (model prog w) A (Builtin.«list.sort» ⟨[.ref l], []⟩) P E s := by
  rw [list_sort_plain]
  have lt : l < s.heap.objs.size := Heap.lt_size hl
  refine wpAny_bind (listItems_at hl rfl (wpAny_bind (listUpdate_at hl rfl ?_)))
  obtain ⟨c1, hl1⟩ : ∃ c1, (s.heap.update l (Obj.mapSeq fun _ => #[])).get? l = some (seqObj "list" #[] c1) := ⟨_, get?_update_seq hl (fun _ => #[])⟩
  refine wpAny_bind (seqEpoch_at hl1 rfl (wpAny_bind (wpAny_newTuple (wpAny_bind (wpAny_newList (wpAny_holding ?_))))))
  have hl6 : (((s.heap.update l (Obj.mapSeq fun _ => #[])).push (seqObj "tuple" us.toArray 0)).push (seqObj "list" #[] 0)).get? l = some (seqObj "list" #[] c1) := by
    rw [Heap.get?_push_ne _ _ _ (by rw [size_push', Heap.size_update]; exact Nat.ne_of_lt (Nat.lt_succ_of_lt lt))]
    rw [Heap.get?_push_ne _ _ _ (by rw [Heap.size_update]; exact Nat.ne_of_lt lt)]
    exact hl1
  show wpAny (model prog w) A _ P E { s with heap := ((s.heap.update l (Obj.mapSeq fun _ => #[])).push (seqObj "tuple" us.toArray 0)).push (seqObj "list" #[] 0) }
  dsimp only
  have z2 : ¬ us.toArray.size < 2 := by rw [List.size_toArray]; omega
  rw [if_neg z2, if_neg z2]
  obtain ⟨u1, u2, us', rfl⟩ : ∃ u1 u2 us', us = u1 :: u2 :: us' := by
    match us, h64 with
    | u1 :: u2 :: us', _ => exact ⟨u1, u2, us', rfl⟩
  rw [keyKind_ints hI]
  refine wpAny_bind (wpAny_pure ?_)
  refine wpAny_bind (wpAny_mono (wpS_runs64 (g := pairsOf (u1 :: u2 :: us')) (z := SortSt.mk' oneType' ((u1 :: u2 :: us').toArray.zip (u1 :: u2 :: us').toArray) #[] 7 none)
    (Q := fun _ z' => (arrOf z').Perm (pairsOf (u1 :: u2 :: us')) ∧ failedOf z' = none ∧ SortedTo (arrOf z') (pairsOf (u1 :: u2 :: us')).size)
    hI.intKeys ⟨Array.Perm.refl _, rfl, rfl, rfl⟩ (by rw [pairsOf_size]; exact h64) fun z' b1 b2 b3 => ⟨b1, b2, b3⟩) ?_ fun _ _ e => e)
  rintro ⟨⟨⟩, z'⟩ s' ⟨rfl, hp, hf, hs⟩
  dsimp only
  have big : ((arrOf z').map (·.2)).size ≤ sizeLine + 1 := by
    rw [Array.size_map, hp.size_eq, pairsOf_size, h64, sizeLine_eq]
    omega
  refine wpAny_bind (seqEpoch_at hl6 rfl (wpAny_bind (listUpdate_at hl6 rfl ?_ (hsz2 := big))))
  rw [hf]
  simp only [bne_self_eq_false, Bool.false_eq_true, if_false]
  obtain ⟨ms, b1, b2, b3⟩ := sorted_out hI hp hs
  exact wpAny_pure (h _ ms b1 b2 b3)
theorem sorted64_ints {l : Addr} {us : List Value} {ks : List Int} {Q : Value → Shared → Prop} (hl : s.heap.IsList l us.toArray) (hI : IntsAre us ks) (h64 : us.length = 64)
    (h : ∀ (o : Array Value) (ms : List Int), IntsAre o.toList ms → ms.Perm ks → ms.Pairwise (· ≤ ·) → Q (.ref (s.heap.objs.size + 1)) { s with heap := sortedAll s.heap us o }) :
    wpAny (model prog w) A (call (.builtin "sorted") [.ref l]) Q E s := by
  refine Calls.call_function_entry kind_sorted plain_sorted entry_sorted (args_sorted1 _) ?_
  unfold Builtin.«sorted»
  refine wpAny_bind (m := checkCount "sorted" 1 1 _) (wpAny_pure (wpAny_bind (collect_list hl (wpAny_bind (wpAny_newList ?_)) (by rw [h64, sizeLine_eq]; omega))))
  have hz : ((s.heap.push (seqObj "list" #[] 0)).update s.heap.objs.size (Obj.mapSeq (· ++ us.toArray))).objs.size = s.heap.objs.size + 1 := by rw [Heap.size_update, size_push']
  have hL : (((s.heap.push (seqObj "list" #[] 0)).update s.heap.objs.size (Obj.mapSeq (· ++ us.toArray))).push (seqObj "list" us.toArray 0)).get? (s.heap.objs.size + 1) = some (seqObj "list" us.toArray 0) := by
    have := Heap.get?_push_size ((s.heap.push (seqObj "list" #[] 0)).update s.heap.objs.size (Obj.mapSeq (· ++ us.toArray))) (o := seqObj "list" us.toArray 0) rfl
    rwa [hz] at this
  show wpAny _ _ _ _ _ { s with heap := ((s.heap.push (seqObj "list" #[] 0)).update s.heap.objs.size (Obj.mapSeq (· ++ us.toArray))).push (seqObj "list" us.toArray 0) }
  rw [hz]
  refine wpAny_bind (wpAny_holding (wpAny_call_entry slot_list_sort ⟨_, hL, rfl⟩ entry_list_sort (tree64 hL hI h64 fun o ms b1 b2 b3 => ⟨_, rfl, wpAny_pure ⟨_, rfl, h o ms b1 b2 b3⟩⟩) (args_list_sort _)))
end
end S64
namespace L2
open PySem PySem.Spec PyProof.Rows
section
variable {X : Cx}
theorem call_sorted_64 : CallR X (.builtin "sorted") (fun xs H Q => ∃ (p : Addr) (ns : List Int), xs = [.ref p] ∧ SqL X.K H p (ns.map V.int) ∧ ns.length ≤ 64 ∧ ∀ ms : List Int, ms.Perm ns → ms.Pairwise (· ≤ ·) → NewL H Q (ms.map V.int)) := by
  intro pins s σ H xs us Q I r h
  obtain ⟨p, ns, rfl, hq, h64, q⟩ := h
  by_cases c : ns.length < 64
  · exact call_sorted_of pins s σ H _ us Q I r ⟨p, ns, rfl, hq, c, q⟩
  obtain ⟨u, rfl, rx⟩ := vals1 r
  cases rx
  obtain ⟨its, rv, pl, hz⟩ := I.list hq
  have hlen : ns.length = its.length := by rw [← rv.length, List.length_map]
  refine S64.sorted64_ints (us := its) pl.isList (intsAre_of rv) (by omega) fun out ms a1 a2 a3 => ?_
  obtain ⟨e, he⟩ := sortedAll_at s.heap its out
  refine ⟨.ref (s.heap.objs.size + 1), _, I.laid (t' := s.toks) (o := .lst (ms.map V.int)) (fun b u => sortedAll_old) (Nat.le_succ _) ?_, rfl, (q ms a2 a3).upd _ (I.hok.fresh (Nat.le_succ _))⟩
  refine ⟨?_, out.toList, e, vals_ints a1, by simpa using he⟩
  rw [List.length_map, a2.length_eq, hlen]
  rw [List.length_map, hlen] at hz
  exact hz
end
end L2
namespace S
open PySem L2

def top (i : Nat) : Stmt := PySem.Challenge.pw_spinsum_k04_whole_how_many_roots.main.body.getD i (.Pass ⟨0, 0, 0, 0⟩)
abbrev s_wall : Stmt := top 0
abbrev s_is_prime : Stmt := top 7
abbrev s_ask_rest : Stmt := top 8
abbrev s_ask_rest_above_nought : Stmt := top 9
abbrev s_Field___init__ : Stmt := inClass (top 10) 0
abbrev s_Field_plus : Stmt := inClass (top 10) 1
abbrev s_Field_times : Stmt := inClass (top 10) 2
abbrev s_Field_power : Stmt := inClass (top 10) 3
abbrev s_Field_inverse : Stmt := inClass (top 10) 4
abbrev s_Field_order : Stmt := inClass (top 10) 5
abbrev s_roots : Stmt := top 11
abbrev s_law_cell_at : Stmt := top 13
abbrev s_law_whole : Stmt := top 14
abbrev s_law_numbers : Stmt := top 15
abbrev s_law_prime : Stmt := top 16
abbrev s_law_power : Stmt := top 17
abbrev s_law_size : Stmt := top 18
abbrev s_law_common : Stmt := top 19
abbrev s_law : Stmt := top 20
/-! ### what the text is asked for -/
structure Txt (K : PySem.W.Frag) (mg : Str → Option Value) (C : Addr) : Prop where
  cl : Cls K C
  n_prime : NoAttr K C "prime"
  len : mg "len" = none
  range : mg "range" = none
  isinstance : mg "isinstance" = none
  int : mg "int" = none
  bool : mg "bool" = none
  list : mg "list" = none
  sorted : mg "sorted" = none
  set : mg "set" = none
  reversed : mg "reversed" = none
  sum : mg "sum" = none
  max : mg "max" = none
  min : mg "min" = none
  zip : mg "zip" = none
  gp : ∃ t, mg "GREATEST_PRIME" = some (.int 997 t)
/-- a field by the prime m stands at p -/
structure FieldAt (C : Addr) (H : Hp) (p : Addr) (m : Nat) : Prop where
  ob : ∃ dx, H p = some (.ins C dx [(("prime" : Str), V.int (m : Nat))])
  pr : NT.Pr m
  le : m ≤ 997
theorem look_prime (v : V) : ([(("prime" : Str), v)] : List (Str × V)).lookup ("prime" : Str) = some v := by
  rw [List.lookup_cons]
  simp
theorem FieldAt.same {C : Addr} {H H' : Hp} {p : Addr} {m : Nat} (h : FieldAt C H p m) (s : Same H H') : FieldAt C H' p m := by
  obtain ⟨dx, e⟩ := h.ob
  exact ⟨⟨dx, s _ _ e⟩, h.pr, h.le⟩
/-! ### promises -/
def spIsPrime : Sp := fun vs H Q _ => ∃ p : Nat, vs = [.int p] ∧ NT.Pr p ∧ p ≤ 997 ∧ Q (.bl true) H
def spAsk : Sp := fun vs H Q _ => ∃ m n : Int, vs = [.int m, .int n] ∧ 0 ≤ n ∧ n < m ∧ Q .non H
def spAskA : Sp := fun vs H Q _ => ∃ m n : Int, vs = [.int m, .int n] ∧ 0 < n ∧ n < m ∧ Q .non H
def spInit (C : Addr) : Sp := fun vs H Q _ => ∃ (p dx : Addr) (m : Nat), vs = [.ref p, .int m] ∧ H p = some (.ins C dx []) ∧ NT.Pr m ∧ m ≤ 997 ∧ ∀ H2, H2 p = some (.ins C dx [(("prime" : Str), V.int (m : Nat))]) → (∀ b o, b ≠ p → H b = some o → H2 b = some o) → Q .non H2
def spPlus (C : Addr) : Sp := fun vs H Q _ => ∃ (p : Addr) (m : Nat) (a b : Int), vs = [.ref p, .int a, .int b] ∧ FieldAt C H p m ∧ 0 ≤ a ∧ a < m ∧ 0 ≤ b ∧ b < m ∧ Q (.int ((a + b) % m)) H
def spTimes (C : Addr) : Sp := fun vs H Q _ => ∃ (p : Addr) (m : Nat) (a b : Int), vs = [.ref p, .int a, .int b] ∧ FieldAt C H p m ∧ 0 ≤ a ∧ a < m ∧ 0 ≤ b ∧ b < m ∧ Q (.int (a * b % m)) H
def spPower (C : Addr) : Sp := fun vs H Q _ => ∃ (p : Addr) (m : Nat) (a n : Int), vs = [.ref p, .int a, .int n] ∧ FieldAt C H p m ∧ 0 ≤ a ∧ a < m ∧ 0 ≤ n ∧ Q (.int (a ^ n.toNat % m)) H
def spInverse (C : Addr) : Sp := fun vs H Q _ => ∃ (p : Addr) (m : Nat) (a : Int), vs = [.ref p, .int a] ∧ FieldAt C H p m ∧ 0 < a ∧ a < m ∧ Q (.int (a ^ (m - 2) % m)) H
/-! ### the law's own defs -/
def spCell (K : PySem.W.Frag) : Sp := fun vs H Q _ => ∃ (a : Addr) (ns : List Int) (k : Int), vs = [.ref a, .int k] ∧ SqL K H a (ns.map V.int) ∧ 0 ≤ k ∧ Q (.int (ns.getD k.toNat 0)) H
def spWhole : Sp := fun vs H Q _ => ∃ i : Int, vs = [.int i] ∧ Q (.bl true) H
structure PrimeOf (c : Int) (p : Nat) : Prop where
  pr : NT.Pr p
  le : p ≤ 997
  small : 0 ≤ c → c < 20 → p = NT.tab.getD c.toNat 0
def spLPrime : Sp := fun vs H Q _ => ∃ c : Int, vs = [.int c] ∧ ∀ (p : Nat) (H' : Hp), PrimeOf c p → Same H H' → Q (.int p) H'
def spRests (K : PySem.W.Frag) : Sp := fun vs H Q _ => ∃ (a : Addr) (ns : List Int) (t m : Int) (p : Nat), vs = [.ref a, .int t, .int m, .int p] ∧ SqL K H a (ns.map V.int) ∧ 0 ≤ t ∧ 0 ≤ m ∧ m ≤ 100 ∧ 2 ≤ p ∧
  ∀ (l : Addr) (rs : List Int) (H' : Hp), rs.length = m.toNat → (∀ r ∈ rs, 0 ≤ r ∧ r < p) → Same H H' → H' l = some (.lst (rs.map V.int)) → H l = none → Q (.ref l) H'
def spLPower : Sp := fun vs H Q _ => ∃ (p : Nat) (a n : Int), vs = [.int p, .int a, .int n] ∧ 2 ≤ p ∧ p ≤ 997 ∧ 0 ≤ a ∧ a < p ∧ 0 ≤ n ∧ n ≤ 1000 ∧ Q (.int (a ^ n.toNat % p)) H
theorem nolook {m : Str} (v : V) (h : ¬ m = "prime") : ([(("prime" : Str), v)] : List (Str × V)).lookup m = none := by
  rw [List.lookup_cons]
  have : (m == ("prime" : Str)) = false := by simpa using h
  rw [this]
  rfl
def spLaw (K : PySem.W.Frag) : Sp := fun vs H Q _ => ∃ (a : Addr) (ns : List Int), vs = [.ref a] ∧ SqL K H a (ns.map V.int) ∧ ns.length ≤ 63 ∧ ∀ H', Q (.bl true) H'
section
variable {P : Program} {w : World} {K : PySem.W.Frag} {mg : Str → Option Value} {base : Heap} {C : Addr}

theorem sc_is_prime : FnScope ["number", "part"] ["number"] (defScope s_is_prime) := ⟨rfl, rfl, rfl, by decide +kernel, rfl, by decide +kernel, by decide +kernel⟩
theorem ok_is_prime {f : Addr} {fd : FuncData} (F : Fun K "is_prime" "is_prime" s_is_prime f fd) : FnOk P w K mg base CX0 1 f fd ["number"] spIsPrime := by
  have nd := sc_is_prime.nd
  refine F.okJ sc_is_prime (fun vs H Q E h => ?_) (fun cdv A outer s H vs Q E hr h => ?_)
  · obtain ⟨p, rfl, _⟩ := h
    rfl
  obtain ⟨p, rfl, hp, h9, q⟩ := h
  refine ⟨_, jss_cons (js_if (jt_cmpR op_lt (jv 0) je_int (nomark _)) (jss_one (js_ret je_bl))
    (jss_nil))
    (jss_cons (js_set (i := 1) nd rfl (Or.inl rfl) je_int)
    (jss_cons (js_while PassesOwn.never (jt_cmpR op_le (je_op op_mul (jv 1) (jv 1)) (jv 0) (nomark _))
    (jss_cons (js_if (jt_cmpR op_eq (je_op op_mod (jv 0) (jv 1)) je_int (nomark _)) (jss_one (js_ret je_bl))
    (jss_nil))
    (jss_one (js_aug (i := 1) nd rfl (Or.inl rfl) je_int ip_add))))
    (jss_one (js_ret je_bl)))), ?_⟩
  -- if number < 2
  refine ⟨_, rfl, _, _, rfl, rfl, _, rfl, ?_⟩
  refine ite2 (fun c => ?_) (fun c => ?_)
  · have c : (p : Int) < 2 := of_decide_eq_true c
    have := hp.1
    omega
  -- while part * part <= number
  refine ⟨fun m σ H' => ∃ d : Nat, σ = [some (.int p), some (.int d)] ∧ H' = H ∧ m = 40 - d ∧ 2 ≤ d ∧ d ≤ 33, ⟨_, 2, rfl, rfl, rfl, by decide, by decide⟩, ?_⟩
  rintro m σ H' ⟨d, rfl, rfl, rfl, h2, h3⟩
  refine ⟨_, rfl, _, rfl, _, _, rfl, rfl, .inl ⟨by omega, by omega⟩, _, rfl, _, _, rfl, rfl, _, rfl, ?_⟩
  refine ite2 (fun c => ?_) (fun c => ?_)
  · have c : (d : Int) * d ≤ p := of_decide_eq_true c
    have c : d * d ≤ p := by exact_mod_cast c
    have d31 : d ≤ 31 := by
      rcases Nat.lt_or_ge d 32 with z | z
      · omega
      · have := Nat.mul_le_mul z z
        omega
    have dp : d < p := by
      have := Nat.mul_le_mul_right d h2
      omega
    refine ⟨fun σ' H2 => σ' = [some (.int p), some (.int ((d + 1 : Nat) : Int))] ∧ H2 = H', fun σ' H2 z => ⟨40 - (d + 1), by omega, d + 1, z.1, z.2, rfl, by omega, by omega⟩, ?_⟩
    -- if number % part == 0
    refine ⟨_, rfl, _, rfl, _, _, rfl, rfl, (by show (0 : Int) < d; omega), rfl, _, rfl, ?_⟩
    refine ite2 (fun c => ?_) (fun c => ?_)
    · have c : V.int ((p : Int) % d) = V.int 0 := of_decide_eq_true c
      have c : (p : Int) % d = 0 := V.int.inj c
      exact absurd (by exact_mod_cast c) (hp.2 d h2 dp)
    · -- part += 1
      exact ⟨_, rfl, _, _, rfl, rfl, rfl, rfl⟩
  · exact q

theorem sc_ask_rest : FnScope ["prime", "number"] ["prime", "number"] (defScope s_ask_rest) := ⟨rfl, rfl, rfl, by decide +kernel, rfl, by decide +kernel, by decide +kernel⟩
theorem ok_ask_rest {f : Addr} {fd : FuncData} (F : Fun K "ask_rest" "ask_rest" s_ask_rest f fd) : FnOk P w K mg base CX0 1 f fd ["prime", "number"] spAsk := by
  have nd := sc_ask_rest.nd
  refine F.okJ sc_ask_rest (fun vs H Q E h => ?_) (fun cdv A outer s H vs Q E hr h => ?_)
  · obtain ⟨m, n, rfl, _⟩ := h
    rfl
  obtain ⟨m, n, rfl, h0, h1, q⟩ := h
  refine ⟨_, jss_one (js_if (jw_pt (jw_or (jt_cmpR op_lt (jv 1) je_int (nomark _)) (jw_or1 (jt_cmpR op_ge (jv 1) (jv 0) (nomark _))))) (jss_one js_never)
    (jss_nil)), ?_⟩
  refine ⟨_, rfl, _, _, rfl, rfl, _, rfl, ?_⟩
  refine ite2 (fun c => ?_) (fun c => ?_)
  · have c : n < 0 := of_decide_eq_true c
    omega
  refine ⟨_, rfl, _, rfl, _, _, rfl, rfl, _, rfl, ?_⟩
  refine ite2 (fun c => ?_) (fun c => ?_)
  · have c : m ≤ n := of_decide_eq_true c
    omega
  exact q

theorem sc_ask_rest_above_nought : FnScope ["prime", "number"] ["prime", "number"] (defScope s_ask_rest_above_nought) := ⟨rfl, rfl, rfl, by decide +kernel, rfl, by decide +kernel, by decide +kernel⟩
theorem ok_ask_rest_above_nought {f : Addr} {fd : FuncData} (F : Fun K "ask_rest_above_nought" "ask_rest_above_nought" s_ask_rest_above_nought f fd) (D_ask_rest : DefOk P w K mg base "ask_rest" 1 ["prime", "number"] spAsk) : FnOk P w K mg base CX0 2 f fd ["prime", "number"] spAskA := by
  have nd := sc_ask_rest_above_nought.nd
  refine F.okJ sc_ask_rest_above_nought (fun vs H Q E h => ?_) (fun cdv A outer s H vs Q E hr h => ?_)
  · obtain ⟨m, n, rfl, _⟩ := h
    rfl
  obtain ⟨m, n, rfl, h0, h1, q⟩ := h
  refine ⟨_, jss_cons (js_expr (je_callD D_ask_rest (hr.mono (by decide)) rfl (ja_cons (jv 0) (ja_cons (jv 1) ja_nil))))
    (jss_one (js_if (jt_cmpR op_eq (jv 1) je_int (nomark _)) (jss_one js_never)
    (jss_nil))), ?_⟩
  refine ⟨_, rfl, _, rfl, m, n, rfl, by omega, h1, ?_⟩
  refine ⟨_, rfl, rfl, _, rfl, ?_⟩
  refine ite2 (fun c => ?_) (fun c => ?_)
  · have c : V.int n = V.int 0 := of_decide_eq_true c
    have c : n = 0 := V.int.inj c
    omega
  exact q

theorem sc_Field___init__ : FnScope ["self", "prime"] ["self", "prime"] (defScope s_Field___init__) := ⟨rfl, rfl, rfl, by decide +kernel, rfl, by decide +kernel, by decide +kernel⟩
theorem ok_Field___init__ {f : Addr} {fd : FuncData} (T : Txt K mg C) (F : Fun K "__init__" "Field.__init__" s_Field___init__ f fd) (D_is_prime : DefOk P w K mg base "is_prime" 1 ["number"] spIsPrime) : FnOk P w K mg base CX0 2 f fd ["self", "prime"] (spInit C) := by
  have nd := sc_Field___init__.nd
  obtain ⟨tg, g_GREATEST_PRIME⟩ := T.gp
  refine F.okJ sc_Field___init__ (fun vs H Q E h => ?_) (fun cdv A outer s H vs Q E hr h => ?_)
  · obtain ⟨p, dx, m, rfl, _⟩ := h
    rfl
  obtain ⟨p, dx, m, rfl, hp, pr, h9, q⟩ := h
  refine ⟨_, jss_cons (js_if (jw_pt (jw_or (jt_cmpR op_gt (jv 1) (je_globI rfl g_GREATEST_PRIME) (nomark _)) (jw_or1 (jt_not (jt_val (je_callD D_is_prime (hr.mono (by decide)) rfl (ja_cons (jv 1) ja_nil))))))) (jss_one js_never)
    (jss_nil))
    (jss_one (js_fld (jv 0) (jv 1) rfl)), ?_⟩
  -- prime > GREATEST_PRIME
  refine ⟨_, rfl, _, _, rfl, rfl, _, rfl, ?_⟩
  refine ite2 (fun c => ?_) (fun c => ?_)
  · have c : (997 : Int) < m := of_decide_eq_true c
    omega
  -- is_prime(prime)
  refine ⟨_, rfl, m, rfl, pr, h9, _, rfl, ?_⟩
  refine iteF ?_
  exact ⟨_, rfl, _, rfl, p, C, dx, _, rfl, hp, T.cl, T.n_prime, (by show 0 < 1000; decide), q _ upd_same fun b o nb e => by rw [upd_ne nb]; exact e⟩

theorem sc_Field_power : FnScope ["self", "one", "often", "told", "square", "left"] ["self", "one", "often"] (defScope s_Field_power) := ⟨rfl, rfl, rfl, by decide +kernel, rfl, by decide +kernel, by decide +kernel⟩
theorem ok_Field_power {f : Addr} {fd : FuncData} (T : Txt K mg C) (F : Fun K "power" "Field.power" s_Field_power f fd) (D_ask_rest : DefOk P w K mg base "ask_rest" 1 ["prime", "number"] spAsk) : FnOk P w K mg base CX0 2 f fd ["self", "one", "often"] (spPower C) := by
  have nd := sc_Field_power.nd
  refine F.okJ sc_Field_power (fun vs H Q E h => ?_) (fun cdv A outer s H vs Q E hr h => ?_)
  · obtain ⟨p, m, a, n, rfl, _⟩ := h
    rfl
  obtain ⟨p, m, a, n, rfl, fa, a0, a1, n0, q⟩ := h
  obtain ⟨dx, ob⟩ := fa.ob
  have pr := fa.pr.1
  have le := fa.le
  refine ⟨_, jss_cons (js_expr (je_callD D_ask_rest (hr.mono (by decide)) rfl (ja_cons (je_fld (jv 0) rfl) (ja_cons (jv 1) ja_nil))))
    (jss_cons (js_if (jt_cmpR op_lt (jv 2) je_int (nomark _)) (jss_one js_never)
    (jss_nil))
    (jss_cons (js_set (i := 3) nd rfl (Or.inl rfl) je_int)
    (jss_cons (js_set (i := 4) nd rfl (Or.inl rfl) (jv 1))
    (jss_cons (js_set (i := 5) nd rfl (Or.inl rfl) (jv 2))
    (jss_cons (js_while PassesOwn.never (jt_cmpR op_gt (jv 5) je_int (nomark _))
    (jss_cons (js_if (jt_cmpR op_eq (je_op op_mod (jv 5) je_int) je_int (nomark _)) (jss_one (js_set (i := 3) nd rfl (Or.inl rfl) (je_op op_mod (je_op op_mul (jv 3) (jv 4)) (je_fld (jv 0) rfl))))
    (jss_nil))
    (jss_cons (js_set (i := 4) nd rfl (Or.inl rfl) (je_op op_mod (je_op op_mul (jv 4) (jv 4)) (je_fld (jv 0) rfl)))
    (jss_one (js_set (i := 5) nd rfl (Or.inl rfl) (je_op op_fdiv (jv 5) je_int))))))
    (jss_one (js_ret (jv 3)))))))), ?_⟩
  refine ⟨_, rfl, p, C, dx, _, _, rfl, ob, T.cl, T.n_prime, look_prime _, _, rfl, m, a, rfl, a0, a1, ?_⟩
  -- if often < 0
  refine ⟨_, rfl, _, _, rfl, rfl, _, rfl, ?_⟩
  refine ite2 (fun c => ?_) (fun c => ?_)
  · have c : n < 0 := of_decide_eq_true c
    omega
  -- told = 1; square = one; left = often
  refine ⟨_, rfl, _, rfl, ?_⟩
  -- while left > 0
  refine ⟨fun k σ H' => ∃ t sq l : Int, σ = [some (.ref p), some (.int a), some (.int n), some (.int t), some (.int sq), some (.int l)] ∧ H' = H ∧ k = l.toNat ∧ 0 ≤ t ∧ t < m ∧ 0 ≤ sq ∧ sq < m ∧ 0 ≤ l ∧ t * sq ^ l.toNat % m = a ^ n.toNat % m,
    ⟨_, 1, a, n, rfl, rfl, rfl, by decide, by omega, a0, a1, n0, by rw [Int.one_mul]⟩, ?_⟩
  rintro k σ H' ⟨t, sq, l, rfl, rfl, rfl, t0, t1, s0, s1, l0, inv⟩
  refine ⟨_, rfl, _, _, rfl, rfl, _, rfl, ?_⟩
  refine ite2 (fun c => ?_) (fun c => ?_)
  · have c : 0 < l := of_decide_eq_true c
    have m0 : (0 : Int) < m := by omega
    have half : (l / 2).toNat = l.toNat / 2 := by omega
    refine ⟨fun σ' H2 => ∃ t' : Int, σ' = [some (.ref p), some (.int a), some (.int n), some (.int t'), some (.int (sq * sq % m)), some (.int (l / 2))] ∧ H2 = H' ∧ 0 ≤ t' ∧ t' < m ∧ t' * (sq * sq % m) ^ (l.toNat / 2) % m = a ^ n.toNat % m,
      fun σ' H' z => ?_, ?_⟩
    · obtain ⟨t', e1, e2, e3, e4, e5⟩ := z
      exact ⟨(l / 2).toNat, by omega, t', _, _, e1, e2, rfl, e3, e4, Int.emod_nonneg _ (by omega), Int.emod_lt_of_pos _ m0, by omega, by rw [half]; exact e5⟩
    -- if left % 2 == 1
    refine ⟨_, rfl, _, _, rfl, rfl, (by show (0 : Int) < 2; decide), rfl, _, rfl, ?_⟩
    refine ite2 (fun c => ?_) (fun c => ?_)
    · have c : V.int (l % 2) = V.int 1 := of_decide_eq_true c
      have c : l % 2 = 1 := V.int.inj c
      refine ⟨_, rfl, _, rfl, _, _, rfl, rfl, .inl ⟨by omega, by omega⟩, _, rfl, p, C, dx, _, _, rfl, ob, T.cl, T.n_prime, look_prime _, _, _, rfl, rfl, m0, ?_⟩
      refine ⟨_, rfl, _, rfl, _, _, rfl, rfl, .inl ⟨by omega, by omega⟩, _, rfl, p, C, dx, _, _, rfl, ob, T.cl, T.n_prime, look_prime _, _, _, rfl, rfl, m0, ?_⟩
      refine ⟨_, rfl, _, _, rfl, rfl, ⟨by decide, by decide⟩, ?_⟩
      exact ⟨t * sq % m, rfl, rfl, Int.emod_nonneg _ (by omega), Int.emod_lt_of_pos _ m0, NT.turn_odd inv (by omega)⟩
    · have c : ¬ V.int (l % 2) = V.int 1 := fun z => c (decide_eq_true z)
      have c : ¬ l % 2 = 1 := fun z => c (congrArg V.int z)
      refine ⟨_, rfl, _, rfl, _, _, rfl, rfl, .inl ⟨by omega, by omega⟩, _, rfl, p, C, dx, _, _, rfl, ob, T.cl, T.n_prime, look_prime _, _, _, rfl, rfl, m0, ?_⟩
      refine ⟨_, rfl, _, _, rfl, rfl, ⟨by decide, by decide⟩, ?_⟩
      exact ⟨t, rfl, rfl, t0, t1, NT.turn_even inv (by omega)⟩
  · have c : ¬ 0 < l := fun z => c (decide_eq_true z)
    have l00 : l = 0 := by omega
    subst l00
    have e : t = a ^ n.toNat % m := by
      have := inv
      rw [show (0 : Int).toNat = 0 from rfl, Int.pow_zero, Int.mul_one, Int.emod_eq_of_lt t0 t1] at this
      exact this
    refine ⟨_, rfl, ?_⟩
    rw [e]
    exact q

def spOrder (C : Addr) : Sp := fun vs H Q _ => ∃ (p : Addr) (m : Nat) (a : Int), vs = [.ref p, .int a] ∧ FieldAt C H p m ∧ 0 < a ∧ a < m ∧ Q (.int (NT.ordZ m a : Nat)) H
theorem sc_Field_order : FnScope ["self", "one", "often", "reached"] ["self", "one"] (defScope s_Field_order) := ⟨rfl, rfl, rfl, by decide +kernel, rfl, by decide +kernel, by decide +kernel⟩
theorem ok_Field_order {f : Addr} {fd : FuncData} (T : Txt K mg C) (F : Fun K "order" "Field.order" s_Field_order f fd) (D_ask_rest_above_nought : DefOk P w K mg base "ask_rest_above_nought" 2 ["prime", "number"] spAskA) : FnOk P w K mg base CX0 3 f fd ["self", "one"] (spOrder C) := by
  have nd := sc_Field_order.nd
  refine F.okJ sc_Field_order (fun vs H Q E h => ?_) (fun cdv A outer s H vs Q E hr h => ?_)
  · obtain ⟨p, m, a, rfl, _⟩ := h
    rfl
  obtain ⟨p, m, a, rfl, fa, a0, a1, q⟩ := h
  obtain ⟨dx, ob⟩ := fa.ob
  have pr := fa.pr.1
  have le := fa.le
  have m0 : (0 : Int) < m := by omega
  have ord := NT.ordZ_ok fa.pr fa.le a0 a1
  refine ⟨_, jss_cons (js_expr (je_callD D_ask_rest_above_nought (hr.mono (by decide)) rfl (ja_cons (je_fld (jv 0) rfl) (ja_cons (jv 1) ja_nil))))
    (jss_cons (js_set (i := 2) nd rfl (Or.inl rfl) je_int)
    (jss_cons (js_set (i := 3) nd rfl (Or.inl rfl) (jv 1))
    (jss_cons (js_while PassesOwn.never (jt_cmpR op_ne (jv 3) je_int (nomark _))
    (jss_cons (js_set (i := 3) nd rfl (Or.inl rfl) (je_op op_mod (je_op op_mul (jv 3) (jv 1)) (je_fld (jv 0) rfl)))
    (jss_one (js_aug (i := 2) nd rfl (Or.inl rfl) je_int ip_add))))
    (jss_one (js_ret (jv 2)))))), ?_⟩
  refine ⟨_, rfl, p, C, dx, _, _, rfl, ob, T.cl, T.n_prime, look_prime _, _, rfl, m, a, rfl, a0, a1, ?_⟩
  refine ⟨_, rfl, ?_⟩
  -- while reached != 1
  refine ⟨fun k σ H' => ∃ n : Nat, σ = [some (.ref p), some (.int a), some (.int n), some (.int (a ^ n % m))] ∧ H' = H ∧ k = m - n ∧ 1 ≤ n ∧ n ≤ NT.ordZ m a,
    ⟨_, 1, by rw [Int.pow_succ, Int.pow_zero, Int.one_mul, Int.emod_eq_of_lt (by omega) a1]; rfl, rfl, rfl, Nat.le_refl _, ord.pos⟩, ?_⟩
  rintro k σ H' ⟨n, rfl, rfl, rfl, n1, n2⟩
  have b0 : 0 ≤ a ^ n % (m : Int) := Int.emod_nonneg _ (by omega)
  have b1 : a ^ n % (m : Int) < m := Int.emod_lt_of_pos _ m0
  refine ⟨_, rfl, rfl, _, rfl, ?_⟩
  refine ite2 (fun c => ?_) (fun c => ?_)
  · have c : ¬ a ^ n % (m : Int) = 1 := fun z => by
      rw [z] at c
      exact absurd c (by decide)
    have nlt : n < NT.ordZ m a := by
      rcases Nat.lt_or_ge n (NT.ordZ m a) with z | z
      · exact z
      · have : n = NT.ordZ m a := by omega
        exact absurd ord.one (by rw [← this]; exact c)
    have nm := ord.le fa.pr fa.le a0 a1
    refine ⟨fun σ' H2 => σ' = [some (.ref p), some (.int a), some (.int ((n : Int) + 1)), some (.int (a ^ (n + 1) % m))] ∧ H2 = H', fun σ' H2 z => ⟨m - (n + 1), by omega, n + 1, z.1, z.2, rfl, by omega, nlt⟩, ?_⟩
    refine ⟨_, rfl, _, rfl, _, _, rfl, rfl, .inl ⟨by omega, by omega⟩, _, rfl, p, C, dx, _, _, rfl, ob, T.cl, T.n_prime, look_prime _, _, _, rfl, rfl, m0, ?_⟩
    refine ⟨_, rfl, _, _, rfl, rfl, ?_, rfl⟩
    have e : a ^ n % (m : Int) * a % m = a ^ (n + 1) % m := by
      rw [Int.pow_succ, Int.mul_emod, Int.emod_emod, ← Int.mul_emod]
    rw [← e]
    rfl
  · have c : a ^ n % (m : Int) = 1 := by
      rcases Decidable.em (a ^ n % (m : Int) = 1) with z | z
      · exact z
      · refine absurd ?_ c
        rw [decide_eq_false fun y => z (V.int.inj y)]
        rfl
    have e : n = NT.ordZ m a := by
      rcases Nat.lt_or_ge n (NT.ordZ m a) with z | z
      · exact absurd c (ord.least n n1 z)
      · omega
    refine ⟨_, rfl, ?_⟩
    rw [e]
    exact q

def spRoots (C : Addr) : Sp := fun vs H Q _ => ∃ (p : Addr) (m : Nat) (s : Int), vs = [.ref p, .int s] ∧ FieldAt C H p m ∧ ∀ (l : Addr) (H' : Hp), H l = none → H' l = some (.lst ((NT.rootsL m s).map V.int)) → Same H H' → Q (.ref l) H'
theorem gath_near (m : Nat) (s : Int) : gath 1 (fun a => decide (a ^ s.toNat % (m : Int) = 1)) V.int (m - 1) = (NT.near m s).map V.int := by
  unfold gath NT.near
  rw [List.map_map]
  rfl
theorem near_bound {m : Nat} {s a : Int} (h : a ∈ NT.near m s) : 0 < a ∧ a < m := by
  unfold NT.near at h
  obtain ⟨k, hk, rfl⟩ := List.mem_map.mp h
  have := List.mem_range.mp (List.mem_filter.mp hk).1
  omega
theorem near_len (m : Nat) (s : Int) : (NT.near m s).length ≤ m - 1 := by
  unfold NT.near
  rw [List.length_map]
  exact Nat.le_trans (List.length_filter_le _ _) (by simp)
theorem sc_roots : FnScope ["field", "size", "near"] ["field", "size"] (defScope s_roots) := ⟨rfl, rfl, rfl, by decide +kernel, rfl, by decide +kernel, by decide +kernel⟩
theorem ok_roots {f : Addr} {fd : FuncData} (T : Txt K mg C) (F : Fun K "roots" "roots" s_roots f fd) (D_power : MethOk P w K mg base C "power" 2 ["self", "one", "often"] (spPower C)) (D_order : MethOk P w K mg base C "order" 3 ["self", "one"] (spOrder C)) : FnOk P w K mg base CX0 4 f fd ["field", "size"] (spRoots C) := by
  have nd := sc_roots.nd
  refine F.okJ sc_roots (fun vs H Q E h => ?_) (fun cdv A outer s H vs Q E hr h => ?_)
  · obtain ⟨p, m, a, rfl, _⟩ := h
    rfl
  obtain ⟨p, m, s, rfl, fa, q⟩ := h
  obtain ⟨dx, ob⟩ := fa.ob
  have pr := fa.pr.1
  have le := fa.le
  refine ⟨_, jss_cons (js_if (jw_pt (jw_or (jt_cmpR op_lt (jv 1) je_int (nomark _)) (jw_or1 (jt_cmpR op_ne (je_op op_mod (je_op op_sub (je_fld (jv 0) rfl) je_int) (jv 1)) je_int (nomark _))))) (jss_one (js_ret (je_lstS ja_nil)))
    (jss_nil))
    (jss_cons (js_setComp (i := 2) rfl (comp_ok (js := [1, 0]) (fr := ["size", "field"]) (defScope s_roots) ["field", "size", "near"] (by decide +kernel)) nd rfl rfl (ji_range2 rfl T.range (ja_cons je_int (ja_cons (je_fld (jv 0) rfl) ja_nil))) (fun _ _ _ _ _ => jts_one (jt_cmpR op_eq (je_methD D_power (jv 2) (hr.mono (by decide)) (ja_cons (jv 0) (ja_cons (jv 1) ja_nil))) je_int (nomark _))) (fun _ _ _ _ _ => jv 0) (by rfl))
    (jss_one (js_ret (je_comp rfl (comp_ok (js := [1, 0]) (fr := ["size", "field"]) (defScope s_roots) ["field", "size", "near"] (by decide +kernel)) (ji_list (jv 2)) (fun _ _ _ _ _ => jts_one (jt_cmpR op_eq (je_methD D_order (jv 2) (hr.mono (by decide)) (ja_cons (jv 0) ja_nil)) (jv 1) (nomark _))) (fun _ _ _ _ _ => jv 0))))), ?_⟩
  refine ⟨_, rfl, _, _, rfl, rfl, _, rfl, ?_⟩
  refine ite2 (fun c => ?_) (fun c => ?_)
  · have c : s < 1 := of_decide_eq_true c
    refine iteT ⟨(by show 0 ≤ sizeLine; decide), fun l H1 hl h1 s1 => q l H1 hl ?_ s1⟩
    unfold NT.rootsL
    rw [if_pos (.inl c)]
    exact h1
  have c : ¬ s < 1 := fun z => c (decide_eq_true z)
  refine ⟨_, rfl, p, C, dx, _, _, rfl, ob, T.cl, T.n_prime, look_prime _, _, _, rfl, rfl, _, rfl, _, _, rfl, rfl, (by show 0 < s; omega), rfl, _, rfl, ?_⟩
  refine ite2 (fun c2 => ?_) (fun c2 => ?_)
  · have c2 : (!decide (V.int (((m : Int) - 1) % s) = V.int 0)) = true := c2
    have c2 : ¬ ((m : Int) - 1) % s = 0 := fun z => by
      rw [z] at c2
      exact absurd c2 (by decide)
    refine ⟨(by show 0 ≤ sizeLine; decide), fun l H1 hl h1 s1 => q l H1 hl ?_ s1⟩
    unfold NT.rootsL
    rw [if_pos (.inr c2)]
    exact h1
  have c2 : ((m : Int) - 1) % s = 0 := by
    rcases Decidable.em (((m : Int) - 1) % s = 0) with z | z
    · exact z
    · refine absurd ?_ c2
      show (!decide (V.int (((m : Int) - 1) % s) = V.int 0)) = true
      rw [decide_eq_false fun y => z (V.int.inj y)]
      rfl
  have eR : NT.rootsL m s = (NT.near m s).filter fun a => decide ((NT.ordZ m a : Int) = s) := by
    unfold NT.rootsL
    rw [if_neg (by rintro (z | z); exact c z; exact z c2)]
  -- near
  refine ⟨_, rfl, p, C, dx, _, _, rfl, ob, T.cl, T.n_prime, look_prime _, 1, m, rfl, ⟨by decide, by decide, by omega, by omega⟩, ?_⟩
  rw [show ((m : Int) - 1).toNat = m - 1 by omega]
  refine comp_range (fun a => decide (a ^ s.toNat % (m : Int) = 1)) V.int (fun _ H2 => H2 = H) rfl (small (by omega)) ?_ ?_
  · rintro i H2 hi rfl
    refine ⟨_, rfl, p, dx, _, rfl, ob, nolook _ (by decide +kernel), _, rfl, _, rfl, p, m, 1 + (i : Nat), s, rfl, fa, by omega, by omega, by omega, rfl, _, rfl, ?_⟩
    refine ite2 (fun c3 => ?_) (fun c3 => ?_)
    · have c3 : V.int ((1 + ((i : Nat) : Int)) ^ s.toNat % (m : Int)) = V.int 1 := of_decide_eq_true c3
      exact ⟨_, rfl, gath_t (decide_eq_true (V.int.inj c3)), rfl⟩
    · exact ⟨gath_f (decide_eq_false fun z => c3 (decide_eq_true (congrArg V.int z))), rfl⟩
  · rintro H2 rfl n H3 hn h3 s3
    rw [gath_near] at h3
    have ob3 := s3 _ _ ob
    have fa3 := fa.same s3
    -- the roots among them
    refine ⟨_, rfl, n, rfl, ⟨_, SqL.of h3⟩, comp_list (K := K) (a := n) (xs := NT.near m s) (fun a => decide ((NT.ordZ m a : Int) = s)) V.int (fun _ H4 => H4 = H3) rfl (Nat.le_trans (near_len m s) (small (by omega))) (fun i H4 _ e => by rw [e]; exact SqL.of h3) ?_ ?_⟩
    · rintro i v H4 hv rfl
      obtain ⟨v0, v1⟩ := near_bound (List.mem_of_getElem? hv)
      refine ⟨_, rfl, p, dx, _, rfl, ob3, nolook _ (by decide +kernel), _, rfl, p, m, v, rfl, fa3, v0, v1, _, rfl, rfl, _, rfl, ?_⟩
      refine ite2 (fun c3 => ?_) (fun c3 => ?_)
      · have c3 : V.int ((NT.ordZ m v : Nat) : Int) = V.int s := of_decide_eq_true c3
        exact ⟨_, rfl, gathL_t hv (decide_eq_true (V.int.inj c3)), rfl⟩
      · exact ⟨gathL_f hv (decide_eq_false fun z => c3 (decide_eq_true (congrArg V.int z))), rfl⟩
    · rintro H4 rfl l H5 hl h5 s5
      refine q l H5 (s3.free hl) ?_ (s3.trans s5)
      rw [eR]
      exact h5

theorem at_getD {ns : List Int} {k : Int} (h0 : 0 ≤ k) (h : k < (ns.length : Int)) : atI (ns.map V.int) k = some (.int (ns.getD k.toNat 0)) := by
  have hk : k.toNat < ns.length := by omega
  have ek : k = ((k.toNat : Nat) : Int) := by omega
  have q : atI (ns.map V.int) ((k.toNat : Nat) : Int) = some (.int (ns.getD k.toNat 0)) := atI_nat (by rw [List.getElem?_map, List.getElem?_eq_getElem hk, List.getD_eq_getElem?_getD, List.getElem?_eq_getElem hk] <;> rfl)
  rw [← ek] at q
  exact q

theorem sc_law_cell_at : FnScope ["script", "k"] ["script", "k"] (defScope s_law_cell_at) := ⟨rfl, rfl, rfl, by decide +kernel, rfl, by decide +kernel, by decide +kernel⟩
theorem ok_law_cell_at {f : Addr} {fd : FuncData} (T : Txt K mg C) (F : Fun K "_law_cell_at" "_law_cell_at" s_law_cell_at f fd) : FnOk P w K mg base CX0 1 f fd ["script", "k"] (spCell K) := by
  have nd := sc_law_cell_at.nd
  refine F.okJ sc_law_cell_at (fun vs H Q E h => ?_) (fun cdv A outer s H vs Q E hr h => ?_)
  · obtain ⟨a, ns, k, rfl, _⟩ := h
    rfl
  obtain ⟨a, ns, k, rfl, hS, k0, q⟩ := h
  refine ⟨_, jss_cons (js_if (jt_cmpR op_lt (jv 1) (je_callB call_len_seq rfl T.len (by rfl) (ja_cons (jv 0) ja_nil)) (nomark _)) (jss_one (js_ret (je_ix ix_list (jv 0) (jv 1) (fun _ _ => rfl))))
    (jss_nil))
    (jss_one (js_ret je_int)), ?_⟩
  have hl : (ns.map V.int).length = ns.length := List.length_map _
  refine ⟨_, rfl, _, rfl, a, _, rfl, .inl hS, _, _, rfl, rfl, _, rfl, ?_⟩
  refine ite2 (fun c => ?_) (fun c => ?_)
  · have c : k < (((ns.map V.int).length : Nat) : Int) := of_decide_eq_true c
    rw [hl] at c
    exact ⟨_, rfl, _, rfl, a, _, _, _, rfl, rfl, hS, at_getD k0 c, q⟩
  · have c : ¬ k < (((ns.map V.int).length : Nat) : Int) := fun z => c (decide_eq_true z)
    rw [hl] at c
    have e : ns.getD k.toNat 0 = 0 := by
      rw [List.getD_eq_getElem?_getD, List.getElem?_eq_none (by omega)]
      rfl
    rw [e] at q
    exact q

theorem sc_law_whole : FnScope ["found"] ["found"] (defScope s_law_whole) := ⟨rfl, rfl, rfl, by decide +kernel, rfl, by decide +kernel, by decide +kernel⟩
theorem ok_law_whole {f : Addr} {fd : FuncData} (T : Txt K mg C) (F : Fun K "_law_whole" "_law_whole" s_law_whole f fd) : FnOk P w K mg base CX0 1 f fd ["found"] spWhole := by
  have nd := sc_law_whole.nd
  refine F.okJ sc_law_whole (fun vs H Q E h => ?_) (fun cdv A outer s H vs Q E hr h => ?_)
  · obtain ⟨i, rfl, _⟩ := h
    rfl
  obtain ⟨i, rfl, q⟩ := h
  refine ⟨_, jss_one (js_ret (je_and (je_callB call_isi rfl T.isinstance (by rfl) (ja_cons (jv 0) (ja_cons (je_ty (n := "int") rfl T.int (by rfl)) ja_nil))) (je_one (je_not (je_callB call_isi rfl T.isinstance (by rfl) (ja_cons (jv 0) (ja_cons (je_ty (n := "bool") rfl T.bool (by rfl)) ja_nil))))))), ?_⟩
  refine ⟨_, rfl, _, _, _, _, rfl, TyOf.int i, kit_same, _, rfl, iteT ?_⟩
  exact ⟨_, rfl, _, _, _, _, rfl, TyOf.int i, kit_bool, _, rfl, q⟩

def spNumbers : Sp := fun vs H Q _ => ∃ (a b : Addr) (xs : List Int), vs = [.ref a, .ref b] ∧ H a = some (.lst (xs.map V.int)) ∧ H b = some (.lst (xs.map V.int)) ∧ Q (.bl true) H
theorem sc_law_numbers : FnScope ["found", "due", "x"] ["found", "due"] (defScope s_law_numbers) := ⟨rfl, rfl, rfl, by decide +kernel, rfl, by decide +kernel, by decide +kernel⟩
theorem ok_law_numbers {f : Addr} {fd : FuncData} (T : Txt K mg C) (F : Fun K "_law_numbers" "_law_numbers" s_law_numbers f fd) (D_law_whole : DefOk P w K mg base "_law_whole" 1 ["found"] spWhole) : FnOk P w K mg base CX0 2 f fd ["found", "due"] spNumbers := by
  have nd := sc_law_numbers.nd
  refine F.okJ sc_law_numbers (fun vs H Q E h => ?_) (fun cdv A outer s H vs Q E hr h => ?_)
  · obtain ⟨a, b, xs, rfl, _⟩ := h
    rfl
  obtain ⟨a, b, xs, rfl, ha, hb, q⟩ := h
  refine ⟨_, jss_cons (js_if (jw_pt (jw_or (jt_not (jt_val (je_callB call_isi rfl T.isinstance (by rfl) (ja_cons (jv 0) (ja_cons (je_ty (n := "list") rfl T.list (by rfl)) ja_nil))))) (jw_or1 (jt_cmpR op_ne (je_callB call_len_seq rfl T.len (by rfl) (ja_cons (jv 0) ja_nil)) (je_callB call_len_seq rfl T.len (by rfl) (ja_cons (jv 1) ja_nil)) (nomark _))))) (jss_one (js_ret je_bl))
    (jss_nil))
    (jss_cons (js_for PassesOwn.never rfl (ji_list (jv 0)) (jg_name (i := 2) nd rfl (Or.inl rfl))
    (jss_one (js_if (jt_not (jt_val (je_callD D_law_whole (hr.mono (by decide)) rfl (ja_cons (jv 2) ja_nil)))) (jss_one (js_ret je_bl))
    (jss_nil))))
    (jss_one (js_ret (je_cmpR (op_eqI hr.units) (jv 0) (jv 1) (nomark _))))), ?_⟩
  refine ⟨_, rfl, _, _, _, _, rfl, TyOf.lst ha, kit_same, _, rfl, ?_⟩
  refine iteF ?_
  refine ⟨_, rfl, a, _, rfl, .inl (SqL.of ha), _, rfl, b, _, rfl, .inl (SqL.of hb), rfl, _, rfl, ?_⟩
  refine iteNS rfl ?_
  refine ⟨_, rfl, a, rfl, ⟨_, SqL.of ha⟩, for_list (K := K) (a := a) (xs := xs.map V.int) (fun i σ H2 => ∃ x : Option V, σ = [some (.ref a), some (.ref b), x] ∧ H2 = H) ⟨none, rfl, rfl⟩ (fun i σ H2 _ ⟨_, _, e⟩ => by rw [e]; exact SqL.of ha) ?_ ?_⟩
  · rintro i y σ H2 hi ⟨x, rfl, rfl⟩
    obtain ⟨z, rfl⟩ : ∃ z, y = V.int z := by
      rw [List.getElem?_map] at hi
      cases e : xs[i]? with
      | none => rw [e] at hi; cases hi
      | some z => rw [e] at hi; exact ⟨z, (Option.some.inj hi).symm⟩
    refine ⟨_, rfl, z, rfl, _, rfl, ?_⟩
    exact iteF ⟨_, rfl, rfl⟩
  · rintro σ H2 ⟨x, rfl, rfl⟩
    refine ⟨_, rfl, _, rfl, a, b, xs, xs, rfl, rfl, SqL.of ha, SqL.of hb, ?_⟩
    have : Q (.bl (decide (xs = xs))) H2 := by
      rw [decide_eq_true rfl]
      exact q
    exact this

theorem sc_law_prime : FnScope ["cell", "some", "found"] ["cell"] (defScope s_law_prime) := ⟨rfl, rfl, rfl, by decide +kernel, rfl, by decide +kernel, by decide +kernel⟩
def tabI : List Int := [2, 3, 5, 7, 11, 13, 17, 19, 23, 29, 31, 37, 41, 61, 97, 193, 257, 337, 577, 997]
theorem tabI_eq : tabI = NT.tab.map fun p : Nat => (p : Int) := by decide
theorem tab_at (c : Int) : atI (tabI.map V.int) (c % 20) = some (.int ((NT.tab.getD (c % 20).toNat 0 : Nat) : Int)) := by
  have h0 : 0 ≤ c % 20 := Int.emod_nonneg _ (by decide)
  have h1 : c % 20 < 20 := Int.emod_lt_of_pos _ (by decide)
  have hk : (c % 20).toNat < NT.tab.length := by show _ < 20; omega
  have ek : c % 20 = (((c % 20).toNat : Nat) : Int) := by omega
  generalize (c % 20).toNat = j at *
  rw [ek, tabI_eq]
  exact atI_nat (by rw [List.getElem?_map, List.getElem?_map, List.getElem?_eq_getElem hk, List.getD_eq_getElem?_getD, List.getElem?_eq_getElem hk] <;> rfl)
theorem gath_997 : (gath 2 (fun d => decide (d < ((997 : Nat) : Int)) && decide (((997 : Nat) : Int) % d = 0)) V.int 30).length = 0 := by decide +kernel
theorem ok_law_prime {f : Addr} {fd : FuncData} (T : Txt K mg C) (F : Fun K "_law_prime" "_law_prime" s_law_prime f fd) : FnOk P w K mg base CX0 1 f fd ["cell"] spLPrime := by
  have nd := sc_law_prime.nd
  refine F.okJ sc_law_prime (fun vs H Q E h => ?_) (fun cdv A outer s H vs Q E hr h => ?_)
  · obtain ⟨c, rfl, _⟩ := h
    rfl
  obtain ⟨c, rfl, q⟩ := h
  refine ⟨_, jss_cons (js_set (i := 1) nd rfl (Or.inl rfl) (je_lstS (ja_ints (.cons (.cons (.cons (.cons (.cons (.cons (.cons (.cons (.cons (.cons (.cons (.cons (.cons (.cons (.cons (.cons (.cons (.cons (.cons (.cons .nil)))))))))))))))))))))))
    (jss_cons (js_set (i := 2) nd rfl (Or.inr rfl) (je_ix ix_list (jv 1) (je_op op_mod (jv 0) je_int) (fun _ _ => rfl)))
    (jss_cons (js_if (jt_cmpR op_eq (je_op op_mod (je_op op_fdiv (jv 0) je_int) je_int) je_int (nomark _)) (jss_cons (js_set (i := 2) nd rfl (Or.inr rfl) (je_op op_add je_int (je_op op_mod (je_op op_fdiv (jv 0) je_int) je_int)))
    (jss_one (js_while PassesOwn.never (jt_cmpR op_gt (je_callB call_len_seq rfl T.len (by rfl) (ja_cons (je_comp rfl (comp_ok (js := [2]) (fr := ["found"]) (defScope s_law_prime) ["cell", "some", "found"] (by decide +kernel)) (ji_range2 rfl T.range (ja_cons je_int (ja_cons je_int ja_nil))) (fun _ _ _ _ _ => jts_one (jw_pt (jw_and (jt_cmpR op_lt (jv 0) (jv 1) (nomark _)) (jw_and1 (jt_cmpR op_eq (je_op op_mod (jv 1) (jv 0)) je_int (nomark _)))))) (fun _ _ _ _ _ => jv 0)) ja_nil)) je_int (nomark _))
    (jss_one (js_set (i := 2) nd rfl (Or.inr rfl) (je_op op_add (jv 2) je_int))))))
    (jss_nil))
    (jss_one (js_ret (jv 2))))), ?_⟩
  refine ⟨(by show 20 ≤ sizeLine; decide), fun l H1 hl h1 s1 => ?_⟩
  have hL : SqL K H1 l (tabI.map V.int) := SqL.of h1
  refine ⟨_, rfl, _, rfl, _, _, rfl, rfl, (by show (0 : Int) < 20; decide), l, _, _, _, rfl, rfl, hL, tab_at c, ?_⟩
  refine ⟨_, rfl, _, _, rfl, rfl, ⟨by decide, by decide⟩, _, _, rfl, rfl, (by show (0 : Int) < 3; decide), rfl, _, rfl, ?_⟩
  refine ite2 (fun c1 => ?_) (fun c1 => ?_)
  · have c1 : V.int (c / 20 % 3) = V.int 1 := of_decide_eq_true c1
    have c1 : c / 20 % 3 = 1 := V.int.inj c1
    refine ⟨_, rfl, _, _, rfl, rfl, ⟨by decide, by decide⟩, _, _, rfl, rfl, (by show (0 : Int) < 996; decide), _, _, rfl, rfl, ?_⟩
    have g0 : 0 ≤ c / 60 % 996 := Int.emod_nonneg _ (by decide)
    have g1 : c / 60 % 996 < 996 := Int.emod_lt_of_pos _ (by decide)
    refine ⟨fun m σ H' => ∃ n : Nat, σ = [some (.int c), some (.ref l), some (.int n)] ∧ Same H H' ∧ m = 1000 - n ∧ 2 ≤ n ∧ n ≤ 997,
      ⟨_, (2 + c / 60 % 996).toNat, by rw [show (((2 + c / 60 % 996).toNat : Nat) : Int) = 2 + c / 60 % 996 by omega]; rfl, s1, rfl, by omega, by omega⟩, ?_⟩
    rintro m σ H2 ⟨n, rfl, s2, rfl, n2, n9⟩
    refine ⟨2, 32, rfl, ⟨by decide, by decide, by decide, by decide⟩, comp_range (n := 30) (fun d => decide (d < n) && decide ((n : Int) % d = 0)) V.int (fun _ H3 => H3 = H2) rfl (by decide) ?_ ?_⟩
    · rintro i H3 hi rfl
      refine ⟨_, rfl, _, rfl, _, _, rfl, rfl, _, rfl, ?_⟩
      refine ite2 (fun c2 => ?_) (fun c2 => ?_)
      · refine ⟨_, rfl, _, rfl, _, _, rfl, rfl, (by show (0 : Int) < 2 + (i : Nat); omega), rfl, _, rfl, ?_⟩
        refine ite2 (fun c3 => ?_) (fun c3 => ?_)
        · have c3 : V.int ((n : Int) % (2 + (i : Nat))) = V.int 0 := of_decide_eq_true c3
          refine ⟨_, rfl, gath_t ?_, rfl⟩
          rw [Bool.and_eq_true]
          exact ⟨c2, decide_eq_true (V.int.inj c3)⟩
        · refine ⟨gath_f ?_, rfl⟩
          rw [Bool.and_eq_false_iff]
          exact .inr (decide_eq_false fun z => c3 (decide_eq_true (congrArg V.int z)))
      · refine iteF ⟨gath_f ?_, rfl⟩
        rw [Bool.and_eq_false_iff]
        exact .inl (Bool.eq_false_iff.mpr c2)
    · rintro H3 rfl r H4 hr' h4 s4
      have s3 : Same H H4 := s2.trans s4
      refine ⟨r, _, rfl, .inl (SqL.of h4), _, _, rfl, rfl, _, rfl, ?_⟩
      refine ite2 (fun c2 => ?_) (fun c2 => ?_)
      · have c2 : (0 : Int) < (((gath 2 (fun d => decide (d < n) && decide ((n : Int) % d = 0)) V.int 30).length : Nat) : Int) := of_decide_eq_true c2
        have n997 : n ≠ 997 := by
          rintro rfl
          rw [gath_997] at c2
          exact absurd c2 (by decide)
        refine ⟨fun σ' H' => σ' = [some (.int c), some (.ref l), some (.int ((n : Int) + 1))] ∧ Same H H', fun σ' H' z => ⟨1000 - (n + 1), by omega, n + 1, z.1, z.2, rfl, by omega, by omega⟩, ?_⟩
        exact ⟨_, rfl, _, _, rfl, rfl, rfl, s3⟩
      · refine ⟨_, rfl, q n _ ⟨NT.pr_of_31 n2 n9 fun i hi z => c2 (decide_eq_true ?_), n9, fun h1 h2 => ?_⟩ s3⟩
        · show (0 : Int) < (((gath 2 (fun d => decide (d < n) && decide ((n : Int) % d = 0)) V.int 30).length : Nat) : Int)
          have mem : i ∈ (List.range 30).filter fun k => decide ((2 : Int) + (k : Nat) < n) && decide ((n : Int) % (2 + (k : Nat)) = 0) := by
            rw [List.mem_filter, Bool.and_eq_true]
            refine ⟨List.mem_range.mpr hi, decide_eq_true (by omega), decide_eq_true ?_⟩
            have := z.2
            exact_mod_cast this
          have : 0 < ((List.range 30).filter fun k => decide ((2 : Int) + (k : Nat) < n) && decide ((n : Int) % (2 + (k : Nat)) = 0)).length := List.length_pos_of_mem mem
          unfold gath
          rw [List.length_map]
          exact Int.ofNat_lt.mpr this
        · omega
  · refine ⟨_, rfl, q (NT.tab.getD (c % 20).toNat 0) _ ⟨?_, ?_, fun h1 h2 => ?_⟩ s1⟩
    · refine NT.tab_pr ?_
      have hk : (c % 20).toNat < NT.tab.length := by show _ < 20; omega
      rw [List.getD_eq_getElem?_getD, List.getElem?_eq_getElem hk]
      exact List.getElem_mem hk
    · refine NT.tab_le _ ?_
      have hk : (c % 20).toNat < NT.tab.length := by show _ < 20; omega
      rw [List.getD_eq_getElem?_getD, List.getElem?_eq_getElem hk]
      exact List.getElem_mem hk
    · rw [Int.emod_eq_of_lt h1 h2]

theorem sc_law_power : FnScope ["prime", "one", "often", "found", "k"] ["prime", "one", "often"] (defScope s_law_power) := ⟨rfl, rfl, rfl, by decide +kernel, rfl, by decide +kernel, by decide +kernel⟩
theorem ok_law_power {f : Addr} {fd : FuncData} (T : Txt K mg C) (F : Fun K "_law_power" "_law_power" s_law_power f fd) : FnOk P w K mg base CX0 1 f fd ["prime", "one", "often"] spLPower := by
  have nd := sc_law_power.nd
  refine F.okJ sc_law_power (fun vs H Q E h => ?_) (fun cdv A outer s H vs Q E hr h => ?_)
  · obtain ⟨p, a, n, rfl, _⟩ := h
    rfl
  obtain ⟨p, a, n, rfl, p2, p9, a0, a1, n0, n1, q⟩ := h
  have p0 : (0 : Int) < p := by omega
  refine ⟨_, jss_cons (js_set (i := 3) nd rfl (Or.inl rfl) je_int)
    (jss_cons (js_for PassesOwn.never rfl (ji_range1 rfl T.range (ja_cons (jv 2) ja_nil)) (jg_name (i := 4) nd rfl (Or.inl rfl))
    (jss_one (js_set (i := 3) nd rfl (Or.inl rfl) (je_op op_mod (je_op op_mul (jv 3) (jv 1)) (jv 0)))))
    (jss_one (js_ret (je_op op_mod (jv 3) (jv 0))))), ?_⟩
  refine ⟨_, rfl, n, rfl, by omega, by omega, for_range (lo := 0) (n := n.toNat) (fun i σ H' => ∃ (t : Int) (k : Option V), σ = [some (.int p), some (.int a), some (.int n), some (.int t), k] ∧ H' = H ∧ 0 ≤ t ∧ t < p ∧ t % p = a ^ i % p)
    ⟨1, none, rfl, rfl, by decide, by omega, by rw [Int.pow_zero]⟩ ?_ ?_⟩
  · rintro i σ H1 hi ⟨t, k, rfl, rfl, t0, t1, inv⟩
    refine ⟨_, rfl, _, rfl, _, _, rfl, rfl, .inl ⟨by omega, by omega⟩, _, rfl, _, _, rfl, rfl, p0, ?_⟩
    exact ⟨_, _, rfl, rfl, Int.emod_nonneg _ (by omega), Int.emod_lt_of_pos _ p0, NT.step_pow inv⟩
  · rintro σ H1 ⟨t, k, rfl, rfl, t0, t1, inv⟩
    refine ⟨_, rfl, _, rfl, _, _, rfl, rfl, p0, ?_⟩
    show Q (.int (t % p)) H1
    rw [inv]
    exact q

def spCommon : Sp := fun vs H Q _ => ∃ (a b : Nat), vs = [.int a, .int b] ∧ Q (.int (Nat.gcd a b : Nat)) H
theorem sc_law_common : FnScope ["one", "other", "kept"] ["one", "other"] (defScope s_law_common) := ⟨rfl, rfl, rfl, by decide +kernel, rfl, by decide +kernel, by decide +kernel⟩
theorem ok_law_common {f : Addr} {fd : FuncData} (T : Txt K mg C) (F : Fun K "_law_common" "_law_common" s_law_common f fd) : FnOk P w K mg base CX0 1 f fd ["one", "other"] spCommon := by
  have nd := sc_law_common.nd
  refine F.okJ sc_law_common (fun vs H Q E h => ?_) (fun cdv A outer s H vs Q E hr h => ?_)
  · obtain ⟨a, b, rfl, _⟩ := h
    rfl
  obtain ⟨a, b, rfl, q⟩ := h
  refine ⟨_, jss_cons (js_while PassesOwn.never (jt_cmpR op_ne (jv 1) je_int (nomark _))
    (jss_cons (js_set (i := 2) nd rfl (Or.inl rfl) (je_op op_mod (jv 0) (jv 1)))
    (jss_cons (js_set (i := 0) nd rfl (Or.inl rfl) (jv 1))
    (jss_one (js_set (i := 1) nd rfl (Or.inl rfl) (jv 2))))))
    (jss_one (js_ret (jv 0))), ?_⟩
  refine ⟨fun m σ H' => ∃ (x y : Nat) (o : Option V), σ = [some (.int x), some (.int y), o] ∧ H' = H ∧ m = y ∧ Nat.gcd x y = Nat.gcd a b, ⟨_, a, b, none, rfl, rfl, rfl, rfl⟩, ?_⟩
  rintro m σ H' ⟨x, y, o, rfl, rfl, hm, e⟩
  refine ⟨_, rfl, rfl, _, rfl, ?_⟩
  refine ite2 (fun c => ?_) (fun c => ?_)
  · have y0 : 0 < y := by
      rcases Nat.eq_zero_or_pos y with z | z
      · subst z
        exact absurd c (by decide)
      · exact z
    refine ⟨fun σ' H2 => σ' = [some (.int y), some (.int ((x : Int) % y)), some (.int ((x : Int) % y))] ∧ H2 = H', fun σ' H2 z => ⟨x % y, by rw [hm]; exact Nat.mod_lt _ y0, y, x % y, _, z.1, z.2, rfl, ?_⟩, ?_⟩
    · rw [Nat.gcd_comm, ← Nat.gcd_rec, Nat.gcd_comm, e]
    · exact ⟨_, rfl, _, rfl, _, _, rfl, rfl, (by show (0 : Int) < y; omega), _, rfl, _, rfl, rfl, rfl⟩
  · have y0 : y = 0 := by
      rcases Nat.eq_zero_or_pos y with z | z
      · exact z
      · refine absurd ?_ c
        rw [decide_eq_false fun w => by have := V.int.inj w; omega]
        rfl
    subst y0
    refine ⟨_, rfl, ?_⟩
    rw [← e, Nat.gcd_zero_right] at q
    exact q

def divs (p M : Nat) : List Int := ((List.range M).filter fun k => decide (((p : Int) - 1) % (1 + ((k : Nat) : Int)) = 0)).map fun k => 1 + ((k : Nat) : Int)
theorem divs_mem {p M : Nat} {s : Int} (h : s ∈ divs p M) : 1 ≤ s ∧ s ≤ M ∧ ((p : Int) - 1) % s = 0 := by
  unfold divs at h
  obtain ⟨k, hk, rfl⟩ := List.mem_map.mp h
  have a := List.mem_range.mp (List.mem_filter.mp hk).1
  have b := of_decide_eq_true (List.mem_filter.mp hk).2
  exact ⟨by omega, by omega, b⟩
theorem divs_pos (p : Nat) {M : Nat} (hM : 1 ≤ M) : 0 < (divs p M).length := by
  unfold divs
  rw [List.length_map]
  refine List.length_pos_of_mem (a := 0) (List.mem_filter.mpr ⟨List.mem_range.mpr hM, decide_eq_true ?_⟩)
  exact Int.emod_one _
theorem gath_divs (p M : Nat) : gath 1 (fun k => decide (((p : Int) - 1) % k = 0)) V.int M = (divs p M).map V.int := by
  unfold gath divs
  rw [List.map_map]
  rfl
def spSize : Sp := fun vs H Q _ => ∃ (p : Nat) (c : Int) (M : Nat), vs = [.int p, .int c, .int M] ∧ 1 ≤ M ∧ M ≤ 64 ∧ ∀ (s : Nat) (H' : Hp), 1 ≤ s → s ≤ M → ((p : Int) - 1) % s = 0 → Same H H' → Q (.int s) H'
theorem sc_law_size : FnScope ["prime", "cell", "most", "some"] ["prime", "cell", "most"] (defScope s_law_size) := ⟨rfl, rfl, rfl, by decide +kernel, rfl, by decide +kernel, by decide +kernel⟩
theorem ok_law_size {f : Addr} {fd : FuncData} (T : Txt K mg C) (F : Fun K "_law_size" "_law_size" s_law_size f fd) : FnOk P w K mg base CX0 1 f fd ["prime", "cell", "most"] spSize := by
  have nd := sc_law_size.nd
  refine F.okJ sc_law_size (fun vs H Q E h => ?_) (fun cdv A outer s H vs Q E hr h => ?_)
  · obtain ⟨p, c, M, rfl, _⟩ := h
    rfl
  obtain ⟨p, c, M, rfl, M1, M2, q⟩ := h
  refine ⟨_, jss_cons (js_setComp (i := 3) rfl (comp_ok (js := [0]) (fr := ["prime"]) (defScope s_law_size) ["prime", "cell", "most", "some"] (by decide +kernel)) nd rfl rfl (ji_range2 rfl T.range (ja_cons je_int (ja_cons (je_op op_add (jv 2) je_int) ja_nil))) (fun _ _ _ _ _ => jts_one (jt_cmpR op_eq (je_op op_mod (je_op op_sub (jv 1) je_int) (jv 0)) je_int (nomark _))) (fun _ _ _ _ _ => jv 0) (by rfl))
    (jss_one (js_ret (je_ix ix_list (jv 3) (je_op op_sub (je_op op_sub (je_callB call_len_seq rfl T.len (by rfl) (ja_cons (jv 3) ja_nil)) je_int) (je_op op_mod (jv 1) (je_callB call_len_seq rfl T.len (by rfl) (ja_cons (jv 3) ja_nil)))) (fun _ _ => rfl)))), ?_⟩
  refine ⟨_, rfl, _, _, rfl, rfl, 1, (M : Int) + 1, rfl, ⟨by decide, by decide, by omega, by omega⟩, ?_⟩
  rw [show ((M : Int) + 1 - 1).toNat = M by omega]
  refine comp_range (n := M) (fun k => decide (((p : Int) - 1) % k = 0)) V.int (fun _ H2 => H2 = H) rfl (small (by omega)) ?_ ?_
  · rintro i H2 hi rfl
    refine ⟨_, rfl, _, _, rfl, rfl, _, rfl, _, _, rfl, rfl, (by show (0 : Int) < 1 + (i : Nat); omega), rfl, _, rfl, ?_⟩
    refine ite2 (fun c3 => ?_) (fun c3 => ?_)
    · have c3 : V.int (((p : Int) - 1) % (1 + ((i : Nat) : Int))) = V.int 0 := of_decide_eq_true c3
      exact ⟨_, rfl, gath_t (decide_eq_true (V.int.inj c3)), rfl⟩
    · exact ⟨gath_f (decide_eq_false fun z => c3 (decide_eq_true (congrArg V.int z))), rfl⟩
  · rintro H2 rfl l H3 hl h3 s3
    rw [gath_divs] at h3
    have dp := divs_pos p M1
    have e : ((divs p M).map V.int).length = (divs p M).length := List.length_map _
    have m0 := Int.emod_nonneg c (show ((((divs p M).map V.int).length : Nat) : Int) ≠ 0 by rw [e]; omega)
    have m1 := Int.emod_lt_of_pos c (show (0 : Int) < (((divs p M).map V.int).length : Nat) by rw [e]; omega)
    rw [e] at m0 m1
    have hat : atI ((divs p M).map V.int) ((((divs p M).map V.int).length : Nat) - 1 - c % (((divs p M).map V.int).length : Nat)) = some (.int ((divs p M).getD ((((divs p M).length : Nat) : Int) - 1 - c % ((divs p M).length : Nat)).toNat 0)) := by
      rw [e]
      exact at_getD (by omega) (by omega)
    have hm : (divs p M).getD ((((divs p M).length : Nat) : Int) - 1 - c % ((divs p M).length : Nat)).toNat 0 ∈ divs p M := by
      rw [List.getD_eq_getElem?_getD, List.getElem?_eq_getElem (by omega)]
      exact List.getElem_mem _
    obtain ⟨d1, d2, d3⟩ := divs_mem hm
    refine ⟨_, rfl, _, rfl, l, _, rfl, .inl (SqL.of h3), _, _, rfl, rfl, _, rfl, _, rfl, l, _, rfl, .inl (SqL.of h3), _, _, rfl, rfl, (by show (0 : Int) < (((divs p M).map V.int).length : Nat); rw [e]; omega), _, _, rfl, rfl, l, _, _, _, rfl, rfl, SqL.of h3, hat, ?_⟩
    generalize (divs p M).getD ((((divs p M).length : Nat) : Int) - 1 - c % ((divs p M).length : Nat)).toNat 0 = v at *
    obtain ⟨n, rfl⟩ : ∃ n : Nat, v = n := ⟨v.toNat, by omega⟩
    exact q n H3 (by omega) (by omega) d3 s3

theorem chk_use {ps : List Nat} {p s : Nat} (h : NT.chkAll ps = true) (hp : p ∈ ps) (s1 : 1 ≤ s) (s2 : s ≤ 64) (hd : (p - 1) % s = 0) : NT.chk p s = true := by
  unfold NT.chkAll at h
  have q := List.all_eq_true.mp (List.all_eq_true.mp h p hp) (s - 1) (List.mem_range.mpr (by omega))
  rw [show s - 1 + 1 = s by omega, hd, Bool.or_eq_true] at q
  rcases q with q | q
  · exact absurd q (by decide)
  · exact q
theorem upB_ok : ∀ {l : List Int}, NT.upB l = true → l.Pairwise (· ≤ ·)
  | [], _ => .nil
  | [a], _ => List.pairwise_singleton _ _
  | a :: b :: r, h => by
    unfold NT.upB at h
    rw [Bool.and_eq_true] at h
    have ih := upB_ok h.2
    have ab : a < b := of_decide_eq_true h.1
    refine List.pairwise_cons.mpr ⟨fun x hx => ?_, ih⟩
    rcases List.mem_cons.mp hx with rfl | hx
    · exact Int.le_of_lt ab
    · exact Int.le_trans (Int.le_of_lt ab) ((List.pairwise_cons.mp ih).1 x hx)
structure Fin1 (p s : Nat) (w : Int) : Prop where
  f1 : ((NT.frees s).map fun k => w ^ k.toNat % (p : Int)).Perm (NT.ofOrd p s (p - 1))
  f2 : w ^ s % (p : Int) = 1
  f3 : (distinct ((List.range (s + 1)).map fun k => w ^ k % (p : Int))).length = s
  f4 : ((List.range s).map fun k => w ^ k % (p : Int)).Perm (NT.near p s)
structure Fin0 (p s : Nat) : Prop where
  len : (NT.ofOrd p s (p - 1)).length = (NT.frees s).length
  pos : 0 < (NT.ofOrd p s (p - 1)).length
  up : (NT.ofOrd p s (p - 1)).Pairwise (· ≤ ·)
  upN : (NT.near p s).Pairwise (· ≤ ·)
  one : ∀ w ∈ NT.ofOrd p s (p - 1), Fin1 p s w
theorem chk_fin {p s : Nat} (h : NT.chk p s = true) : Fin0 p s := by
  unfold NT.chk NT.chk0 at h
  simp only [Bool.and_eq_true] at h
  obtain ⟨⟨⟨⟨a1, a2⟩, a3⟩, a4⟩, a5⟩ := h
  refine ⟨Nat.eq_of_beq_eq_true a1, Nat.le_of_ble_eq_true a2, upB_ok a3, upB_ok a4, fun w hw => ?_⟩
  have q := List.all_eq_true.mp a5 w hw
  unfold NT.chk1 at q
  simp only [Bool.and_eq_true] at q
  obtain ⟨⟨⟨b1, b2⟩, b3⟩, b4⟩ := q
  exact ⟨List.isPerm_iff.mp b1, of_decide_eq_true b2, Nat.eq_of_beq_eq_true b3, List.isPerm_iff.mp b4⟩
theorem gath_frees (s : Nat) : gath 1 (fun a => decide (Nat.gcd a.toNat s = 1)) V.int s = (NT.frees s).map V.int := by
  unfold gath NT.frees
  rw [List.map_map]
  rfl
theorem frees_mem {s : Nat} {k : Int} (h : k ∈ NT.frees s) : 1 ≤ k ∧ k ≤ s := by
  unfold NT.frees at h
  obtain ⟨j, hj, rfl⟩ := List.mem_map.mp h
  have := List.mem_range.mp (List.mem_filter.mp hj).1
  omega
theorem frees_len (s : Nat) : (NT.frees s).length ≤ s := by
  unfold NT.frees
  rw [List.length_map]
  exact Nat.le_trans (List.length_filter_le _ _) (by simp)
def pws (p : Nat) (w : Int) (n : Nat) : List Int := (List.range n).map fun k => w ^ k % (p : Int)
theorem pws_len (p : Nat) (w : Int) (n : Nat) : (pws p w n).length = n := by unfold pws; simp
theorem pws_succ (p : Nat) (w : Int) (n : Nat) : pws p w (n + 1) = pws p w n ++ [w ^ n % (p : Int)] := by
  unfold pws
  rw [List.range_succ, List.map_append]
  rfl
theorem pws_at {p : Nat} {w : Int} {n : Nat} {k : Int} (h0 : 0 ≤ k) (h : k < n) : atI ((pws p w n).map V.int) k = some (.int (w ^ k.toNat % (p : Int))) := by
  rw [at_getD h0 (by rw [pws_len]; exact h)]
  have hk : k.toNat < n := by omega
  unfold pws
  rw [List.getD_eq_getElem?_getD, List.getElem?_map, List.getElem?_range hk]
  rfl
theorem pws_take {p : Nat} {w : Int} {n m : Nat} (h : n ≤ m) : (pws p w m).take n = pws p w n := by
  unfold pws
  rw [← List.map_take, List.take_range, Nat.min_eq_left h]

def Sorted64 : Prop := ∀ (X : Cx), CallR X (.builtin "sorted") (fun xs H Q => ∃ (p : Addr) (ns : List Int), xs = [.ref p] ∧ SqL X.K H p (ns.map V.int) ∧ ns.length ≤ 64 ∧ ∀ ms : List Int, ms.Perm ns → ms.Pairwise (· ≤ ·) → NewL H Q (ms.map V.int))
theorem same_sorted {a b : List Int} (hp : a.Perm b) (ha : a.Pairwise (· ≤ ·)) (hb : b.Pairwise (· ≤ ·)) : a = b := hp.eq_of_pairwise (fun x y _ _ h1 h2 => Int.le_antisymm h1 h2) ha hb
theorem tab_in17 {c : Int} {p : Nat} (h0 : 0 ≤ c) (h1 : c < 17) (po : PrimeOf c p) : p ∈ NT.tab.take 17 := by
  rw [po.small h0 (by omega)]
  have hk : c.toNat < (NT.tab.take 17).length := by show _ < 17; omega
  have e : NT.tab.getD c.toNat 0 = (NT.tab.take 17)[c.toNat] := by
    rw [List.getElem_take, List.getD_eq_getElem?_getD, List.getElem?_eq_getElem (by show _ < 20; omega)]
    rfl
  rw [e]
  exact List.getElem_mem hk
theorem cut_pws (p : Nat) (w : Int) (s : Nat) : cutV ((pws p w (s + 1)).map V.int) none (some (s : Int)) = (pws p w s).map V.int := by
  unfold cutV
  rw [HT.sIx_none, HT.sIx_nat, List.length_map, pws_len, List.drop_zero, Nat.sub_zero, Nat.min_eq_left (Nat.le_succ s), ← List.map_take, pws_take (Nat.le_succ s)]
theorem ofOrd_mem {m : Nat} {s w : Int} (h : w ∈ NT.ofOrd m s (m - 1)) : 0 < w ∧ w < m := by
  unfold NT.ofOrd at h
  obtain ⟨k, hk, rfl⟩ := List.mem_map.mp h
  have := List.mem_range.mp (List.mem_filter.mp hk).1
  omega
theorem sc_law : FnScope ["script", "prime", "size", "found", "free", "one", "powers", "k"] ["script"] (defScope s_law) := ⟨rfl, rfl, rfl, by decide +kernel, rfl, by decide +kernel, by decide +kernel⟩
theorem ok_law {f : Addr} {fd : FuncData} (hchk : NT.chkAll (NT.tab.take 17) = true) (hsort : Sorted64) (T : Txt K mg C) (F : Fun K "law" "law" s_law f fd) (D_law_cell_at : DefOk P w K mg base "_law_cell_at" 1 ["script", "k"] (spCell K))
    (D_law_numbers : DefOk P w K mg base "_law_numbers" 2 ["found", "due"] spNumbers) (D_law_prime : DefOk P w K mg base "_law_prime" 1 ["cell"] spLPrime) (D_law_power : DefOk P w K mg base "_law_power" 1 ["prime", "one", "often"] spLPower)
    (D_law_size : DefOk P w K mg base "_law_size" 1 ["prime", "cell", "most"] spSize) (D_law_common : DefOk P w K mg base "_law_common" 1 ["one", "other"] spCommon)
    (D_Field : MakeOk P w K mg base "Field" C 2 ["self", "prime"] (spInit C)) (D_roots : DefOk P w K mg base "roots" 4 ["field", "size"] (spRoots C)) : FnOk P w K mg base CX0 5 f fd ["script"] (spLaw K) := by
  have nd := sc_law.nd
  refine F.okJ sc_law (fun vs H Q E h => ?_) (fun cdv A outer s H vs Q E hr h => ?_)
  · obtain ⟨a, ns, rfl, _⟩ := h
    rfl
  obtain ⟨a, ns, rfl, hS, h63, q⟩ := h
  refine ⟨_, jss_cons (js_set (i := 1) nd rfl (Or.inr rfl) (je_callD D_law_prime (hr.mono (by decide)) rfl (ja_cons (je_op op_mod (je_callD D_law_cell_at (hr.mono (by decide)) rfl (ja_cons (jv 0) (ja_cons je_int ja_nil))) je_int) ja_nil)))
    (jss_cons (js_set (i := 2) nd rfl (Or.inr rfl) (je_callD D_law_size (hr.mono (by decide)) rfl (ja_cons (jv 1) (ja_cons (je_callD D_law_cell_at (hr.mono (by decide)) rfl (ja_cons (jv 0) (ja_cons je_int ja_nil))) (ja_cons je_int ja_nil)))))
    (jss_cons (js_set (i := 3) nd rfl (Or.inl rfl) (je_callD D_roots (hr.mono (by decide)) rfl (ja_cons (je_makeD D_Field (hr.mono (by decide)) rfl (ja_cons (jv 1) ja_nil)) (ja_cons (jv 2) ja_nil))))
    (jss_cons (js_if (jw_pt (jw_or (jt_not (jt_val (je_callD D_law_numbers (hr.mono (by decide)) rfl (ja_cons (jv 3) (ja_cons (je_callTy call_list_ofS rfl T.list (by rfl) (ja_cons (jv 3) ja_nil)) ja_nil))))) (jw_or1 (jt_cmpR op_eq (je_callB call_len_seq rfl T.len (by rfl) (ja_cons (jv 3) ja_nil)) je_int (nomark _))))) (jss_one (js_ret je_bl))
    (jss_nil))
    (jss_cons (js_setComp (i := 4) rfl (comp_ok (js := [2]) (fr := ["size"]) (defScope s_law) ["script", "prime", "size", "found", "free", "one", "powers", "k"] (by decide +kernel)) nd rfl rfl (ji_range2 rfl T.range (ja_cons je_int (ja_cons (je_op op_add (jv 2) je_int) ja_nil))) (fun _ _ _ _ _ => jts_one (jt_cmpR op_eq (je_callD D_law_common (hr.mono (by decide)) rfl (ja_cons (jv 0) (ja_cons (jv 1) ja_nil))) je_int (nomark _))) (fun _ _ _ _ _ => jv 0) (by rfl))
    (jss_cons (js_if (jt_cmpR op_ne (je_callB call_len_seq rfl T.len (by rfl) (ja_cons (jv 3) ja_nil)) (je_callB call_len_seq rfl T.len (by rfl) (ja_cons (jv 4) ja_nil)) (nomark _)) (jss_one (js_ret je_bl))
    (jss_nil))
    (jss_cons (js_set (i := 5) nd rfl (Or.inl rfl) (je_ix ix_list (jv 3) (je_op op_mod (je_callD D_law_cell_at (hr.mono (by decide)) rfl (ja_cons (jv 0) (ja_cons je_int ja_nil))) (je_callB call_len_seq rfl T.len (by rfl) (ja_cons (jv 3) ja_nil))) (fun _ _ => rfl)))
    (jss_cons (js_set (i := 6) nd rfl (Or.inr rfl) (je_lstS (ja_cons je_int ja_nil)))
    (jss_cons (js_for PassesOwn.never rfl (ji_range2 rfl T.range (ja_cons je_int (ja_cons (je_op op_add (jv 2) je_int) ja_nil))) (jg_name (i := 7) nd rfl (Or.inl rfl))
    (jss_one (js_expr (je_bm PySem.F.plainAttrs_list PySem.F.slot_list_append PySem.F.type_list_append mt_appendS (jv 6) (ja_cons (je_op op_mod (je_op op_mul (je_ix ix_list (jv 6) (je_un un_neg je_int) (fun _ _ => rfl)) (jv 5)) (jv 1)) ja_nil)))))
    (jss_cons (js_if (jw_pt (jw_or (jt_cmpR (op_neI hr.units) (je_callB (hsort _) rfl T.sorted (by rfl) (ja_cons (je_comp rfl (comp_ok (js := [6]) (fr := ["powers"]) (defScope s_law) ["script", "prime", "size", "found", "free", "one", "powers", "k"] (by decide +kernel)) (ji_list (jv 4)) (fun _ _ _ _ _ => jts_nil) (fun _ _ _ _ _ => je_ix (ixK K rfl) (jv 1) (jv 0) (fun _ _ => rfl))) ja_nil)) (jv 3) (nomark _)) (jw_or (jt_cmpR op_ne (je_ix ix_list (jv 6) (jv 2) (fun _ _ => rfl)) je_int (nomark _)) (jw_or1 (jt_cmpR op_ne (je_callB call_len_setS rfl T.len (by rfl) (ja_cons (je_callTy (call_set_of rfl) rfl T.set (by rfl) (ja_cons (jv 6) ja_nil)) ja_nil)) (jv 2) (nomark _)))))) (jss_one (js_ret je_bl))
    (jss_nil))
    (jss_one (js_ret (je_cmpR (op_eqI hr.units) (je_callB (hsort _) rfl T.sorted (by rfl) (ja_cons (je_slice sl_listS (jv 6) jo_none (jo_some (jv 2))) ja_nil)) (je_comp rfl (comp_ok (js := [1, 2]) (fr := ["prime", "size"]) (defScope s_law) ["script", "prime", "size", "found", "free", "one", "powers", "k"] (by decide +kernel)) (ji_range2 rfl T.range (ja_cons je_int (ja_cons (jv 1) ja_nil))) (fun _ _ _ _ _ => jts_one (jt_cmpR op_eq (je_callD D_law_power (hr.mono (by decide)) rfl (ja_cons (jv 1) (ja_cons (jv 0) (ja_cons (jv 2) ja_nil)))) je_int (nomark _))) (fun _ _ _ _ _ => jv 0)) (nomark _))))))))))))), ?_⟩
  have k0 : 0 ≤ ns.getD (0 : Int).toNat 0 % 17 := Int.emod_nonneg _ (by decide)
  have k1 : ns.getD (0 : Int).toNat 0 % 17 < 17 := Int.emod_lt_of_pos _ (by decide)
  refine ⟨_, rfl, a, ns, 0, rfl, hS, Int.le_refl 0, _, _, rfl, rfl, (by show (0 : Int) < 17; decide), _, rfl, fun p H1 po s1 => ?_⟩
  have hin := tab_in17 k0 k1 po
  have p2 := po.pr.1
  have p9 := po.le
  have p0 : (0 : Int) < p := by omega
  -- size
  refine ⟨_, rfl, _, rfl, a, ns, 1, rfl, s1.seq hS, by decide, p, _, 64, rfl, by decide, by decide, fun sz H2 z1 z2 hd s2 => ?_⟩
  have hdN : (p - 1) % sz = 0 := by
    have e : (p : Int) - 1 = ((p - 1 : Nat) : Int) := by omega
    rw [e, ← Int.natCast_emod] at hd
    omega
  have fin := chk_fin (chk_use hchk hin z1 z2 hdN)
  -- found
  refine ⟨_, rfl, fun x dx Ha nx hx sa => ⟨x, dx, p, rfl, hx, po.pr, po.le, fun H3 h3 k3 => ⟨rfl, _, rfl, x, p, sz, rfl, ⟨⟨dx, h3⟩, po.pr, po.le⟩, fun l H4 hl h4 s4 => ?_⟩⟩⟩
  rw [NT.rootsL_eq po.pr po.le] at h4
  have sA : Same H H4 := (s1.trans s2).trans ((sa.but nx k3).trans s4)
  have ll := NT.ofOrd_len p sz (p - 1)
  have len0 := fin.len
  have pos0 := fin.pos
  have eL : ((NT.ofOrd p sz (p - 1)).map V.int).length = (NT.ofOrd p sz (p - 1)).length := List.length_map _
  -- if not numbers or len == 0
  refine ⟨_, rfl, _, rfl, l, _, rfl, SqL.of h4, fun l2 H5 hl2 h5 s5 => ?_⟩
  refine ⟨l, l2, _, rfl, s5 _ _ h4, h5, _, rfl, ?_⟩
  refine iteF ?_
  refine ⟨_, rfl, l, _, rfl, .inl (SqL.of (s5 _ _ h4)), rfl, _, rfl, ?_⟩
  refine ite2 (fun c => ?_) (fun _ => ?_)
  · have c : V.int ((((NT.ofOrd p sz (p - 1)).map V.int).length : Nat) : Int) = V.int 0 := of_decide_eq_true c
    have c := V.int.inj c
    rw [eL] at c
    omega
  have h5l := s5 _ _ h4
  have sB := sA.trans s5
  -- free
  refine ⟨_, rfl, _, _, rfl, rfl, 1, (sz : Int) + 1, rfl, ⟨by decide, by decide, by omega, by omega⟩, ?_⟩
  rw [show ((sz : Int) + 1 - 1).toNat = sz by omega]
  refine comp_range (fun a => decide (Nat.gcd a.toNat sz = 1)) V.int (fun _ H6 => H6 = H5) rfl (small (by omega)) ?_ ?_
  · rintro i H6 hi rfl
    refine ⟨_, rfl, _, rfl, 1 + i, sz, rfl, rfl, _, rfl, ?_⟩
    have e : (1 + ((i : Nat) : Int)).toNat = 1 + i := by omega
    refine ite2 (fun c3 => ?_) (fun c3 => ?_)
    · have c3 : V.int ((Nat.gcd (1 + i) sz : Nat) : Int) = V.int 1 := of_decide_eq_true c3
      have c3 := V.int.inj c3
      exact ⟨_, rfl, gath_t (decide_eq_true (by rw [e]; omega)), rfl⟩
    · refine ⟨gath_f (decide_eq_false fun z => c3 (decide_eq_true (congrArg V.int ?_))), rfl⟩
      rw [e] at z
      show ((Nat.gcd (1 + i) sz : Nat) : Int) = 1
      omega
  rintro H6 rfl lf H7 hlf h7 s7
  rw [gath_frees] at h7
  have h7l := s7 _ _ h5l
  have sC := sB.trans s7
  -- if len(found) != len(free)
  refine ⟨_, rfl, l, _, rfl, .inl (SqL.of h7l), _, rfl, lf, _, rfl, .inl (SqL.of h7), rfl, _, rfl, ?_⟩
  refine iteNS (by rw [List.length_map, List.length_map, len0]) ?_
  -- one
  have i0 := Int.emod_nonneg (ns.getD (2 : Int).toNat 0) (show ((((NT.ofOrd p sz (p - 1)).map V.int).length : Nat) : Int) ≠ 0 by rw [eL]; omega)
  have i1 := Int.emod_lt_of_pos (ns.getD (2 : Int).toNat 0) (show (0 : Int) < (((NT.ofOrd p sz (p - 1)).map V.int).length : Nat) by rw [eL]; omega)
  have hat := at_getD (ns := NT.ofOrd p sz (p - 1)) i0 (by rw [eL] at i1 ⊢; exact i1)
  have hm : (NT.ofOrd p sz (p - 1)).getD (ns.getD (2 : Int).toNat 0 % ((((NT.ofOrd p sz (p - 1)).map V.int).length : Nat) : Int)).toNat 0 ∈ NT.ofOrd p sz (p - 1) := by
    rw [List.getD_eq_getElem?_getD, List.getElem?_eq_getElem (by rw [eL] at i0 i1 ⊢; omega)]
    exact List.getElem_mem _
  refine ⟨_, rfl, _, rfl, a, ns, 2, rfl, sC.seq hS, by decide, _, rfl, l, _, rfl, .inl (SqL.of h7l), _, _, rfl, rfl, (by show (0 : Int) < (((NT.ofOrd p sz (p - 1)).map V.int).length : Nat); rw [eL]; omega), l, _, _, _, rfl, rfl, SqL.of h7l, hat, ?_⟩
  generalize (NT.ofOrd p sz (p - 1)).getD (ns.getD (2 : Int).toNat 0 % ((((NT.ofOrd p sz (p - 1)).map V.int).length : Nat) : Int)).toNat 0 = wr at hm ⊢
  obtain ⟨f1, f2, f3, f4⟩ := fin.one wr hm
  obtain ⟨w0, w1⟩ := ofOrd_mem hm
  -- powers
  refine ⟨(by show 1 ≤ sizeLine; decide), fun lp H8 hlp h8 s8 => ?_⟩
  have h8 : H8 lp = some (.lst ((pws p wr 1).map V.int)) := by
    rw [h8]
    show _ = some (HO.lst [V.int (wr ^ 0 % (p : Int))])
    rw [Int.pow_zero, NT.one_mod p2]
  refine ⟨_, rfl, _, _, rfl, rfl, 1, (sz : Int) + 1, rfl, ⟨by decide, by decide, by omega, by omega⟩, ?_⟩
  rw [show ((sz : Int) + 1 - 1).toNat = sz by omega]
  refine for_range (lo := 1) (n := sz) (fun i σ H' => ∃ o7 : Option V, σ = [some (.ref a), some (.int p), some (.int sz), some (.ref l), some (.ref lf), some (.int wr), some (.ref lp), o7] ∧ Same H7 H' ∧ H' lp = some (.lst ((pws p wr (i + 1)).map V.int))) ⟨none, rfl, s8, h8⟩ ?_ ?_
  · rintro i σ H9 hi ⟨o7, rfl, s9, h9⟩
    have b0 : 0 ≤ wr ^ i % (p : Int) := Int.emod_nonneg _ (by omega)
    have b1 : wr ^ i % (p : Int) < p := Int.emod_lt_of_pos _ p0
    have hl9 : atI ((pws p wr (i + 1)).map V.int) (-1) = some (.int (wr ^ i % (p : Int))) := by
      rw [pws_succ, List.map_append]
      exact atI_last _ _
    refine ⟨_, rfl, .inl ⟨rfl, _, SqL.of h9⟩, _, rfl, _, rfl, lp, _, _, _, rfl, rfl, SqL.of h9, hl9, _, rfl, _, _, rfl, rfl, .inl ⟨by omega, by omega⟩, _, rfl, _, _, rfl, rfl, p0, lp, _, _, rfl, rfl, h9, by rw [List.length_map, pws_len]; exact small1000 (by omega), fun H10 h10 k10 => ?_⟩
    refine ⟨_, rfl, s9.but hlp k10, ?_⟩
    rw [h10, pws_succ p wr (i + 1), List.map_append]
    have e : wr ^ i % (p : Int) * wr % p = wr ^ (i + 1) % p := by
      rw [Int.pow_succ, Int.mul_emod, Int.emod_emod, ← Int.mul_emod]
    show some (HO.lst (_ ++ [V.int (wr ^ i % (p : Int) * wr % p)])) = _
    rw [e]
    rfl
  rintro σ H9 ⟨o7, rfl, s9, h9⟩
  have h9f := s9 _ _ h7
  have h9l := s9 _ _ h7l
  -- sorted([powers[k] for k in free]) != found
  refine ⟨_, rfl, lf, rfl, ⟨_, SqL.of h9f⟩, comp_list (K := K) (a := lf) (xs := NT.frees sz) (fun _ => true) (fun k => V.int (wr ^ k.toNat % (p : Int))) (fun _ H' => H' = H9) rfl (Nat.le_trans (frees_len sz) (small (by omega))) (fun i H' _ e => by rw [e]; exact SqL.of h9f) ?_ ?_⟩
  · rintro i v H' hv rfl
    obtain ⟨v0, v1⟩ := frees_mem (List.mem_of_getElem? hv)
    unfold tYes
    dsimp only
    rw [if_pos rfl]
    exact ⟨_, rfl, _, rfl, lp, _, _, _, rfl, rfl, SqL.of h9, pws_at (by omega) (by omega), gathL_t hv rfl, rfl⟩
  rintro H' rfl lc Ha' hlc hc sc
  have hc : Ha' lc = some (.lst (((NT.frees sz).map fun k => wr ^ k.toNat % (p : Int)).map V.int)) := by
    rw [hc, List.filter_eq_self.mpr fun _ _ => rfl, List.map_map]
    rfl
  refine ⟨lc, _, rfl, SqL.of hc, by rw [List.length_map]; exact Nat.le_trans (frees_len sz) z2, fun ms pm so ls Hb hls hs ss => ?_⟩
  have hbl := ss _ _ (sc _ _ h9l)
  have hbp := ss _ _ (sc _ _ h9)
  refine ⟨_, rfl, ls, l, _, _, rfl, rfl, SqL.of hs, SqL.of hbl, _, rfl, ?_⟩
  refine iteNS (same_sorted (pm.trans f1) so fin.up) ?_
  -- powers[size] != 1
  refine ⟨_, rfl, _, rfl, lp, _, _, _, rfl, rfl, SqL.of hbp, pws_at (by omega) (by omega), rfl, _, rfl, ?_⟩
  refine iteNS (congrArg V.int (by rw [Int.toNat_natCast]; exact f2)) ?_
  -- len(set(powers)) != size
  refine ⟨_, rfl, lp, _, rfl, SqL.of hbp, by rw [pws_len]; omega, fun lz Hc S hlz hz sz' => ?_⟩
  have f3' : (distinct (pws p wr (sz + 1))).length = sz := f3
  rw [f3'] at hz
  refine ⟨lz, S, _, rfl, hz, by omega, _, rfl, rfl, _, rfl, ?_⟩
  refine iteNS rfl ?_
  have hcp := sz' _ _ hbp
  -- the end
  refine ⟨_, rfl, _, rfl, _, rfl, lp, _, rfl, SqL.of hcp, fun lq Hd hlq hq sq => ?_⟩
  rw [cut_pws] at hq
  refine ⟨lq, _, rfl, SqL.of hq, by rw [pws_len]; exact z2, fun ms2 pm2 so2 lr He hlr hr2 sr => ?_⟩
  refine ⟨_, rfl, 1, p, rfl, ⟨by decide, by decide, by omega, by omega⟩, ?_⟩
  rw [show ((p : Int) - 1).toNat = p - 1 by omega]
  refine comp_range (fun a => decide (a ^ ((sz : Nat) : Int).toNat % (p : Int) = 1)) V.int (fun _ H6 => H6 = He) rfl (small (by omega)) ?_ ?_
  · rintro i H6 hi rfl
    refine ⟨_, rfl, _, rfl, _, rfl, p, 1 + (i : Nat), sz, rfl, p2, p9, by omega, by omega, by omega, by omega, rfl, _, rfl, ?_⟩
    refine ite2 (fun c3 => ?_) (fun c3 => ?_)
    · have c3 : V.int ((1 + ((i : Nat) : Int)) ^ ((sz : Nat) : Int).toNat % (p : Int)) = V.int 1 := of_decide_eq_true c3
      exact ⟨_, rfl, gath_t (decide_eq_true (V.int.inj c3)), rfl⟩
    · exact ⟨gath_f (decide_eq_false fun z => c3 (decide_eq_true (congrArg V.int z))), rfl⟩
  rintro H6 rfl ly Hf hly hy sy
  rw [gath_near] at hy
  refine ⟨lr, ly, _, _, rfl, rfl, SqL.of (sy _ _ hr2), SqL.of hy, ?_⟩
  have e9 : Q (.bl (decide (ms2 = NT.near p sz))) Hf := by
    rw [decide_eq_true (same_sorted (pm2.trans f4) so2 fin.upN)]
    exact q Hf
  exact e9
theorem sorted64 : Sorted64 := fun _ => call_sorted_64
end
/-! ### what the top has written; the head -/
theorem all_mk {l : PySem.W.OpenLaw} {w : World} {K : PySem.W.Frag} {h : Heap} {mg : Str → Option Value} {fa C f1 f2 f3 f4 f5 f6 f7 f8 f9 f10 f11 f12 f13 f14 f15 : Addr} (X : K.In h) (G : h.Ns mainGlobals mg) (hfa : mg "law" = some (.ref fa))
    {od1 an1 od2 an2 od3 an3 od4 an4 od5 an5 od6 an6 od7 an7 od8 an8 od9 an9 od10 an10 od11 an11 od12 an12 od13 an13 od14 an14 od15 an15 : Option Addr} {sl1 sl2 sl3 sl4 sl5 sl6 sl7 sl8 sl9 sl10 sl11 sl12 sl13 sl14 sl15 : Array (Option Value)} {oc1 kV1 dc1 pm1 cd1 ct1 oc2 kV2 dc2 pm2 cd2 ct2 oc3 kV3 dc3 pm3 cd3 ct3 oc4 kV4 dc4 pm4 cd4 ct4 oc5 kV5 dc5 pm5 cd5 ct5 oc6 kV6 dc6 pm6 cd6 ct6 oc7 kV7 dc7 pm7 cd7 ct7 oc8 kV8 dc8 pm8 cd8 ct8 oc9 kV9 dc9 pm9 cd9 ct9 oc10 kV10 dc10 pm10 cd10 ct10 oc11 kV11 dc11 pm11 cd11 ct11 oc12 kV12 dc12 pm12 cd12 ct12 oc13 kV13 dc13 pm13 cd13 ct13 oc14 kV14 dc14 pm14 cd14 ct14 oc15 kV15 dc15 pm15 cd15 ct15 : Value} {tg0 : Tok}
    (aC : PySem.W.nsIn K mainGlobals "Field" = some (some (.ref C)))
    (a1 : PySem.W.nsIn K mainGlobals "is_prime" = some (some (.ref f1)))
    (l1 : K.lookup f1 = some ⟨oc1, od1, .func (PySem.W.fnOf "is_prime" "is_prime" (defArgs s_is_prime) (defBody s_is_prime) (defScope s_is_prime) .none kV1 dc1 pm1 an1 cd1 ct1), sl1⟩) (c1 : PySem.W.codeIn K cd1 "is_prime" = true) (k1 : PySem.W.keepIn K (.ref f1) = true)
    (a2 : PySem.W.nsIn K mainGlobals "ask_rest" = some (some (.ref f2)))
    (l2 : K.lookup f2 = some ⟨oc2, od2, .func (PySem.W.fnOf "ask_rest" "ask_rest" (defArgs s_ask_rest) (defBody s_ask_rest) (defScope s_ask_rest) .none kV2 dc2 pm2 an2 cd2 ct2), sl2⟩) (c2 : PySem.W.codeIn K cd2 "ask_rest" = true) (k2 : PySem.W.keepIn K (.ref f2) = true)
    (a3 : PySem.W.nsIn K mainGlobals "ask_rest_above_nought" = some (some (.ref f3)))
    (l3 : K.lookup f3 = some ⟨oc3, od3, .func (PySem.W.fnOf "ask_rest_above_nought" "ask_rest_above_nought" (defArgs s_ask_rest_above_nought) (defBody s_ask_rest_above_nought) (defScope s_ask_rest_above_nought) .none kV3 dc3 pm3 an3 cd3 ct3), sl3⟩) (c3 : PySem.W.codeIn K cd3 "ask_rest_above_nought" = true) (k3 : PySem.W.keepIn K (.ref f3) = true)
    (a4 : PySem.W.findIn K (.ref C) "__init__" = some (some (.ref f4))) (i4 : PySem.W.isFn K (.ref f4) = true)
    (l4 : K.lookup f4 = some ⟨oc4, od4, .func (PySem.W.fnOf "__init__" "Field.__init__" (defArgs s_Field___init__) (defBody s_Field___init__) (defScope s_Field___init__) .none kV4 dc4 pm4 an4 cd4 ct4), sl4⟩) (c4 : PySem.W.codeIn K cd4 "Field.__init__" = true) (k4 : PySem.W.keepIn K (.ref f4) = true)
    (a5 : PySem.W.findIn K (.ref C) "power" = some (some (.ref f5))) (i5 : PySem.W.isFn K (.ref f5) = true)
    (l5 : K.lookup f5 = some ⟨oc5, od5, .func (PySem.W.fnOf "power" "Field.power" (defArgs s_Field_power) (defBody s_Field_power) (defScope s_Field_power) .none kV5 dc5 pm5 an5 cd5 ct5), sl5⟩) (c5 : PySem.W.codeIn K cd5 "Field.power" = true) (k5 : PySem.W.keepIn K (.ref f5) = true)
    (a6 : PySem.W.findIn K (.ref C) "order" = some (some (.ref f6))) (i6 : PySem.W.isFn K (.ref f6) = true)
    (l6 : K.lookup f6 = some ⟨oc6, od6, .func (PySem.W.fnOf "order" "Field.order" (defArgs s_Field_order) (defBody s_Field_order) (defScope s_Field_order) .none kV6 dc6 pm6 an6 cd6 ct6), sl6⟩) (c6 : PySem.W.codeIn K cd6 "Field.order" = true) (k6 : PySem.W.keepIn K (.ref f6) = true)
    (a7 : PySem.W.nsIn K mainGlobals "roots" = some (some (.ref f7)))
    (l7 : K.lookup f7 = some ⟨oc7, od7, .func (PySem.W.fnOf "roots" "roots" (defArgs s_roots) (defBody s_roots) (defScope s_roots) .none kV7 dc7 pm7 an7 cd7 ct7), sl7⟩) (c7 : PySem.W.codeIn K cd7 "roots" = true) (k7 : PySem.W.keepIn K (.ref f7) = true)
    (a8 : PySem.W.nsIn K mainGlobals "_law_cell_at" = some (some (.ref f8)))
    (l8 : K.lookup f8 = some ⟨oc8, od8, .func (PySem.W.fnOf "_law_cell_at" "_law_cell_at" (defArgs s_law_cell_at) (defBody s_law_cell_at) (defScope s_law_cell_at) .none kV8 dc8 pm8 an8 cd8 ct8), sl8⟩) (c8 : PySem.W.codeIn K cd8 "_law_cell_at" = true) (k8 : PySem.W.keepIn K (.ref f8) = true)
    (a9 : PySem.W.nsIn K mainGlobals "_law_whole" = some (some (.ref f9)))
    (l9 : K.lookup f9 = some ⟨oc9, od9, .func (PySem.W.fnOf "_law_whole" "_law_whole" (defArgs s_law_whole) (defBody s_law_whole) (defScope s_law_whole) .none kV9 dc9 pm9 an9 cd9 ct9), sl9⟩) (c9 : PySem.W.codeIn K cd9 "_law_whole" = true) (k9 : PySem.W.keepIn K (.ref f9) = true)
    (a10 : PySem.W.nsIn K mainGlobals "_law_numbers" = some (some (.ref f10)))
    (l10 : K.lookup f10 = some ⟨oc10, od10, .func (PySem.W.fnOf "_law_numbers" "_law_numbers" (defArgs s_law_numbers) (defBody s_law_numbers) (defScope s_law_numbers) .none kV10 dc10 pm10 an10 cd10 ct10), sl10⟩) (c10 : PySem.W.codeIn K cd10 "_law_numbers" = true) (k10 : PySem.W.keepIn K (.ref f10) = true)
    (a11 : PySem.W.nsIn K mainGlobals "_law_prime" = some (some (.ref f11)))
    (l11 : K.lookup f11 = some ⟨oc11, od11, .func (PySem.W.fnOf "_law_prime" "_law_prime" (defArgs s_law_prime) (defBody s_law_prime) (defScope s_law_prime) .none kV11 dc11 pm11 an11 cd11 ct11), sl11⟩) (c11 : PySem.W.codeIn K cd11 "_law_prime" = true) (k11 : PySem.W.keepIn K (.ref f11) = true)
    (a12 : PySem.W.nsIn K mainGlobals "_law_power" = some (some (.ref f12)))
    (l12 : K.lookup f12 = some ⟨oc12, od12, .func (PySem.W.fnOf "_law_power" "_law_power" (defArgs s_law_power) (defBody s_law_power) (defScope s_law_power) .none kV12 dc12 pm12 an12 cd12 ct12), sl12⟩) (c12 : PySem.W.codeIn K cd12 "_law_power" = true) (k12 : PySem.W.keepIn K (.ref f12) = true)
    (a13 : PySem.W.nsIn K mainGlobals "_law_size" = some (some (.ref f13)))
    (l13 : K.lookup f13 = some ⟨oc13, od13, .func (PySem.W.fnOf "_law_size" "_law_size" (defArgs s_law_size) (defBody s_law_size) (defScope s_law_size) .none kV13 dc13 pm13 an13 cd13 ct13), sl13⟩) (c13 : PySem.W.codeIn K cd13 "_law_size" = true) (k13 : PySem.W.keepIn K (.ref f13) = true)
    (a14 : PySem.W.nsIn K mainGlobals "_law_common" = some (some (.ref f14)))
    (l14 : K.lookup f14 = some ⟨oc14, od14, .func (PySem.W.fnOf "_law_common" "_law_common" (defArgs s_law_common) (defBody s_law_common) (defScope s_law_common) .none kV14 dc14 pm14 an14 cd14 ct14), sl14⟩) (c14 : PySem.W.codeIn K cd14 "_law_common" = true) (k14 : PySem.W.keepIn K (.ref f14) = true)
    (a15 : PySem.W.nsIn K mainGlobals "law" = some (some (.ref f15)))
    (l15 : K.lookup f15 = some ⟨oc15, od15, .func (PySem.W.fnOf "law" "law" (defArgs s_law) (defBody s_law) (defScope s_law) .none kV15 dc15 pm15 an15 cd15 ct15), sl15⟩) (c15 : PySem.W.codeIn K cd15 "law" = true) (k15 : PySem.W.keepIn K (.ref f15) = true)
    (pg : PySem.W.plainGet K C Str.empty = true) (hd : PySem.W.hasDictIn K C = true) (po : PySem.W.plainOver K C = true) (sa : PySem.W.findIn K (.ref C) "__setattr__" = some (some (.builtin "object.__setattr__"))) (mk : PySem.W.makesIn K C = true) (kc : PySem.W.keepIn K (.ref C) = true)
    (nA0 : PySem.W.findIn K (.ref C) "prime" = some none)
    (z0 : PySem.W.nsIn K mainGlobals "len" = some none)
    (z1 : PySem.W.nsIn K mainGlobals "range" = some none)
    (z2 : PySem.W.nsIn K mainGlobals "isinstance" = some none)
    (z3 : PySem.W.nsIn K mainGlobals "int" = some none)
    (z4 : PySem.W.nsIn K mainGlobals "bool" = some none)
    (z5 : PySem.W.nsIn K mainGlobals "list" = some none)
    (z6 : PySem.W.nsIn K mainGlobals "sorted" = some none)
    (z7 : PySem.W.nsIn K mainGlobals "set" = some none)
    (z8 : PySem.W.nsIn K mainGlobals "reversed" = some none)
    (z9 : PySem.W.nsIn K mainGlobals "sum" = some none)
    (z10 : PySem.W.nsIn K mainGlobals "max" = some none)
    (z11 : PySem.W.nsIn K mainGlobals "min" = some none)
    (z12 : PySem.W.nsIn K mainGlobals "zip" = some none)
    (gl0 : PySem.W.nsIn K mainGlobals "GREATEST_PRIME" = some (some (.int 997 tg0)))
    : ∃ fd : FuncData, (∀ (s : Shared) (v : Value), BindsTo s fd ⟨[v], []⟩ [("script", v)]) ∧ ∀ base : Heap, K.In base → base.Ns mainGlobals mg → FnOk l.prog w K mg base CX0 5 fa fd ["script"] (spLaw K) := by
  have e := hfa.symm.trans (PySem.W.mg_of X G a15)
  cases e
  have T : Txt K mg C := ⟨⟨pg, hd, po, sa⟩, nA0, PySem.W.mg_none_of X G z0, PySem.W.mg_none_of X G z1, PySem.W.mg_none_of X G z2, PySem.W.mg_none_of X G z3, PySem.W.mg_none_of X G z4, PySem.W.mg_none_of X G z5, PySem.W.mg_none_of X G z6, PySem.W.mg_none_of X G z7, PySem.W.mg_none_of X G z8, PySem.W.mg_none_of X G z9, PySem.W.mg_none_of X G z10, PySem.W.mg_none_of X G z11, PySem.W.mg_none_of X G z12, ⟨tg0, PySem.W.mg_of X G gl0⟩⟩
  have F1 := fun_mk (st := s_is_prime) l1 c1 k1
  have b1 := F1.binds (ps := ["number"]) fun _ _ _ _ _ _ us hl => match us, hl with | [_], _ => rfl
  have F2 := fun_mk (st := s_ask_rest) l2 c2 k2
  have b2 := F2.binds (ps := ["prime", "number"]) fun _ _ _ _ _ _ us hl => match us, hl with | [_, _], _ => rfl
  have F3 := fun_mk (st := s_ask_rest_above_nought) l3 c3 k3
  have b3 := F3.binds (ps := ["prime", "number"]) fun _ _ _ _ _ _ us hl => match us, hl with | [_, _], _ => rfl
  have F4 := fun_mk (st := s_Field___init__) l4 c4 k4
  have b4 := F4.binds (ps := ["self", "prime"]) fun _ _ _ _ _ _ us hl => match us, hl with | [_, _], _ => rfl
  have F5 := fun_mk (st := s_Field_power) l5 c5 k5
  have b5 := F5.binds (ps := ["self", "one", "often"]) fun _ _ _ _ _ _ us hl => match us, hl with | [_, _, _], _ => rfl
  have F6 := fun_mk (st := s_Field_order) l6 c6 k6
  have b6 := F6.binds (ps := ["self", "one"]) fun _ _ _ _ _ _ us hl => match us, hl with | [_, _], _ => rfl
  have F7 := fun_mk (st := s_roots) l7 c7 k7
  have b7 := F7.binds (ps := ["field", "size"]) fun _ _ _ _ _ _ us hl => match us, hl with | [_, _], _ => rfl
  have F8 := fun_mk (st := s_law_cell_at) l8 c8 k8
  have b8 := F8.binds (ps := ["script", "k"]) fun _ _ _ _ _ _ us hl => match us, hl with | [_, _], _ => rfl
  have F9 := fun_mk (st := s_law_whole) l9 c9 k9
  have b9 := F9.binds (ps := ["found"]) fun _ _ _ _ _ _ us hl => match us, hl with | [_], _ => rfl
  have F10 := fun_mk (st := s_law_numbers) l10 c10 k10
  have b10 := F10.binds (ps := ["found", "due"]) fun _ _ _ _ _ _ us hl => match us, hl with | [_, _], _ => rfl
  have F11 := fun_mk (st := s_law_prime) l11 c11 k11
  have b11 := F11.binds (ps := ["cell"]) fun _ _ _ _ _ _ us hl => match us, hl with | [_], _ => rfl
  have F12 := fun_mk (st := s_law_power) l12 c12 k12
  have b12 := F12.binds (ps := ["prime", "one", "often"]) fun _ _ _ _ _ _ us hl => match us, hl with | [_, _, _], _ => rfl
  have F13 := fun_mk (st := s_law_size) l13 c13 k13
  have b13 := F13.binds (ps := ["prime", "cell", "most"]) fun _ _ _ _ _ _ us hl => match us, hl with | [_, _, _], _ => rfl
  have F14 := fun_mk (st := s_law_common) l14 c14 k14
  have b14 := F14.binds (ps := ["one", "other"]) fun _ _ _ _ _ _ us hl => match us, hl with | [_, _], _ => rfl
  have F15 := fun_mk (st := s_law) l15 c15 k15
  refine ⟨PySem.W.fnOf "law" "law" (defArgs s_law) (defBody s_law) (defScope s_law) .none kV15 dc15 pm15 an15 cd15 ct15, fun s v => .of_eq rfl, fun base _ _ => ?_⟩
  have D_is_prime : DefOk l.prog w K mg base "is_prime" 1 ["number"] spIsPrime := ⟨⟨f1, _, ok_is_prime F1, PySem.W.mg_of X G a1, k1, b1⟩⟩
  have D_ask_rest : DefOk l.prog w K mg base "ask_rest" 1 ["prime", "number"] spAsk := ⟨⟨f2, _, ok_ask_rest F2, PySem.W.mg_of X G a2, k2, b2⟩⟩
  have D_ask_rest_above_nought : DefOk l.prog w K mg base "ask_rest_above_nought" 2 ["prime", "number"] spAskA := ⟨⟨f3, _, ok_ask_rest_above_nought F3 D_ask_rest, PySem.W.mg_of X G a3, k3, b3⟩⟩
  have D_Field : MakeOk l.prog w K mg base "Field" C 2 ["self", "prime"] (spInit C) := ⟨f4, _, ok_Field___init__ T F4 D_is_prime, ⟨mk, a4, i4, kc⟩, PySem.W.mg_of X G aC, b4⟩
  have D_power : MethOk l.prog w K mg base C "power" 2 ["self", "one", "often"] (spPower C) := ⟨T.cl, f5, _, ok_Field_power T F5 D_ask_rest, ⟨a5, i5, k5⟩, b5⟩
  have D_order : MethOk l.prog w K mg base C "order" 3 ["self", "one"] (spOrder C) := ⟨T.cl, f6, _, ok_Field_order T F6 D_ask_rest_above_nought, ⟨a6, i6, k6⟩, b6⟩
  have D_roots : DefOk l.prog w K mg base "roots" 4 ["field", "size"] (spRoots C) := ⟨⟨f7, _, ok_roots T F7 D_power D_order, PySem.W.mg_of X G a7, k7, b7⟩⟩
  have D_law_cell_at : DefOk l.prog w K mg base "_law_cell_at" 1 ["script", "k"] (spCell K) := ⟨⟨f8, _, ok_law_cell_at T F8, PySem.W.mg_of X G a8, k8, b8⟩⟩
  have D_law_whole : DefOk l.prog w K mg base "_law_whole" 1 ["found"] spWhole := ⟨⟨f9, _, ok_law_whole T F9, PySem.W.mg_of X G a9, k9, b9⟩⟩
  have D_law_numbers : DefOk l.prog w K mg base "_law_numbers" 2 ["found", "due"] spNumbers := ⟨⟨f10, _, ok_law_numbers T F10 D_law_whole, PySem.W.mg_of X G a10, k10, b10⟩⟩
  have D_law_prime : DefOk l.prog w K mg base "_law_prime" 1 ["cell"] spLPrime := ⟨⟨f11, _, ok_law_prime T F11, PySem.W.mg_of X G a11, k11, b11⟩⟩
  have D_law_power : DefOk l.prog w K mg base "_law_power" 1 ["prime", "one", "often"] spLPower := ⟨⟨f12, _, ok_law_power T F12, PySem.W.mg_of X G a12, k12, b12⟩⟩
  have D_law_size : DefOk l.prog w K mg base "_law_size" 1 ["prime", "cell", "most"] spSize := ⟨⟨f13, _, ok_law_size T F13, PySem.W.mg_of X G a13, k13, b13⟩⟩
  have D_law_common : DefOk l.prog w K mg base "_law_common" 1 ["one", "other"] spCommon := ⟨⟨f14, _, ok_law_common T F14, PySem.W.mg_of X G a14, k14, b14⟩⟩
  exact ok_law NT.chk_17 sorted64 T F15 D_law_cell_at D_law_numbers D_law_prime D_law_power D_law_size D_law_common D_Field D_roots
theorem walk {l : PySem.W.OpenLaw} {q : Program} {loose : List Str} {XP : (Str → Option Value) → Heap → Prop} {YP : World → Heap → Prop} {d : DefRec} {K : Params → PySem.W.Frag} (hn : l.most = some 63) (hdf : d.params.defaults = [])
    (hY : ∀ (w : World) (h : Heap), YP w h → (K w.params).In h)
    (F : ∀ (w : World) (mg : Str → Option Value) (fa : Addr) (h : Heap), (K w.params).In h → h.Ns mainGlobals mg → mg d.name = some (.ref fa) →
      ∃ fd : FuncData, (∀ (s : Shared) (u : Value), BindsTo s fd ⟨[u], []⟩ [("script", u)]) ∧ ∀ base : Heap, (K w.params).In base → base.Ns mainGlobals mg → FnOk l.prog w (K w.params) mg base CX0 5 fa fd ["script"] (spLaw (K w.params))) :
    PySem.W.WalkO q loose XP YP l.row.toRowW d [] (fun f vs => PySem.call f vs) :=
  L2.walk_of (n := 63) (k := 5) (x := "script") (CX := fun _ => CX0) (sp := fun w => spLaw (K w.params)) hn (by decide) hdf ⟨rfl, by decide, by decide⟩ hY F (fun _ _ a ns hl _ hS => ⟨a, ns, rfl, hS, hl, fun _ => rfl⟩) fun _ _ _ _ _ z => z
end S
open PySem PySem.W PyProof.Rows
set_option maxRecDepth 100000 in
set_option maxHeartbeats 0 in
theorem PySem.Challenge.cw_spinsum_k04_whole_how_many_roots_holds : PySem.Challenge.rw_spinsum_k04_whole_how_many_roots.Holds := by
  w_on; o_law; k_head; (case hw => w_witness2)
  k_fill
  refine S.walk (l := PySem.Challenge.rw_spinsum_k04_whole_how_many_roots) rfl rfl (fun w h Y => PySem.W.kIn_of Y) ?F
  case F =>
    intro w mg fa h KX G hmg
    refine' S.all_mk KX G hmg ?aC ?a1 ?l1 ?c1 ?k1 ?a2 ?l2 ?c2 ?k2 ?a3 ?l3 ?c3 ?k3 ?a4 ?i4 ?l4 ?c4 ?k4 ?a5 ?i5 ?l5 ?c5 ?k5 ?a6 ?i6 ?l6 ?c6 ?k6 ?a7 ?l7 ?c7 ?k7 ?a8 ?l8 ?c8 ?k8 ?a9 ?l9 ?c9 ?k9 ?a10 ?l10 ?c10 ?k10 ?a11 ?l11 ?c11 ?k11 ?a12 ?l12 ?c12 ?k12 ?a13 ?l13 ?c13 ?k13 ?a14 ?l14 ?c14 ?k14 ?a15 ?l15 ?c15 ?k15 ?pg ?hd ?po ?sa ?mk ?kc ?nA0 ?z0 ?z1 ?z2 ?z3 ?z4 ?z5 ?z6 ?z7 ?z8 ?z9 ?z10 ?z11 ?z12 ?gl0
    (case aC => k_is); (case a1 => k_is); (case l1 => k_is); (case c1 => k_is); (case k1 => k_is); (case a2 => k_is)
    (case l2 => k_is); (case c2 => k_is); (case k2 => k_is); (case a3 => k_is); (case l3 => k_is); (case c3 => k_is)
    (case k3 => k_is); (case a4 => k_is); (case i4 => k_is); (case l4 => k_is); (case c4 => k_is); (case k4 => k_is)
    (case a5 => k_is); (case i5 => k_is); (case l5 => k_is); (case c5 => k_is); (case k5 => k_is); (case a6 => k_is)
    (case i6 => k_is); (case l6 => k_is); (case c6 => k_is); (case k6 => k_is); (case a7 => k_is); (case l7 => k_is)
    (case c7 => k_is); (case k7 => k_is); (case a8 => k_is); (case l8 => k_is); (case c8 => k_is); (case k8 => k_is)
    (case a9 => k_is); (case l9 => k_is); (case c9 => k_is); (case k9 => k_is); (case a10 => k_is); (case l10 => k_is)
    (case c10 => k_is); (case k10 => k_is); (case a11 => k_is); (case l11 => k_is); (case c11 => k_is); (case k11 => k_is)
    (case a12 => k_is); (case l12 => k_is); (case c12 => k_is); (case k12 => k_is); (case a13 => k_is); (case l13 => k_is)
    (case c13 => k_is); (case k13 => k_is); (case a14 => k_is); (case l14 => k_is); (case c14 => k_is); (case k14 => k_is)
    (case a15 => k_is); (case l15 => k_is); (case c15 => k_is); (case k15 => k_is); (case pg => k_is); (case hd => k_is)
    (case po => k_is); (case sa => k_is); (case mk => k_is); (case kc => k_is); (case nA0 => k_is); (case z0 => k_is)
    (case z1 => k_is); (case z2 => k_is); (case z3 => k_is); (case z4 => k_is); (case z5 => k_is); (case z6 => k_is)
    (case z7 => k_is); (case z8 => k_is); (case z9 => k_is); (case z10 => k_is); (case z11 => k_is); (case z12 => k_is)
    (case gl0 => k_is)
#print axioms PySem.Challenge.cw_spinsum_k04_whole_how_many_roots_holds
