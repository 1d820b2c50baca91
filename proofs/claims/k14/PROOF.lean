import PyProof.Rows.All
import Wide.All
import OpenK.AllK
import Wide.FinOn
import Lean
import PyProof.EqAt
import PyProof.EqKinds
import PyProof.TupleCall
import PySem.Challenge.RW_spinsum_k14_each_refusal_its_own
set_option Elab.async false
set_option linter.all false
set_option maxRecDepth 100000
/-! THE HAND LAYER, for ints, bools, texts, own classes, LISTS and tuples (index, slices, in, append, pop ..), calls, loops. Paste it whole ahead of your own text; what your proof does not reach may be deleted. -/
namespace L2
open PySem PySem.Spec PyProof.Rows

/-- a key: an int or a str -/
abbrev Key := Sum Int Str
def keyIs : Key → Value → Bool
  | .inl k, v => Value.isInt k v
  | .inr x, v => Value.isStrOf x v
def keyH (w : World) : Key → Int
  | .inl k => hashInt k
  | .inr x => hashStr w x
theorem keyIs_shape : ∀ {k : Key} {v : Value}, keyIs k v = true → (∃ i t, k = Sum.inl i ∧ v = Value.int i t) ∨ (∃ x t, k = Sum.inr x ∧ v = Value.str x t)
  | .inl i, v, h => by
    obtain ⟨t, e⟩ := Value.isInt_shape (k := i) (v := v) h
    exact .inl ⟨i, t, rfl, e⟩
  | .inr x, v, h => by
    obtain ⟨t, e⟩ := Value.isStrOf_shape (x := x) (v := v) h
    exact .inr ⟨x, t, rfl, e⟩
theorem key_ll (a b : Int) : decide ((Sum.inl a : Key) = Sum.inl b) = (a == b) := by
  by_cases e : a = b
  · subst e; simp
  · have h : ¬ (Sum.inl a : Key) = Sum.inl b := fun q => e (Sum.inl.inj q)
    rw [decide_eq_false h]
    exact (beq_eq_false_iff_ne.mpr e).symm
theorem key_rr (a b : Str) : decide ((Sum.inr a : Key) = Sum.inr b) = decide (a = b) := by
  by_cases e : a = b
  · subst e; simp
  · have h : ¬ (Sum.inr a : Key) = Sum.inr b := fun q => e (Sum.inr.inj q)
    rw [decide_eq_false h, decide_eq_false e]
theorem key_lr (a : Int) (b : Str) : decide ((Sum.inl a : Key) = Sum.inr b) = false := decide_eq_false (fun q => nomatch q)
theorem key_rl (a : Str) (b : Int) : decide ((Sum.inr a : Key) = Sum.inl b) = false := decide_eq_false (fun q => nomatch q)

def mixKind (prog : Program) (w : World) : PySem.KeyKind prog w Key where
  is := keyIs
  hash := keyH w
  inj := fun v a b ha hb => by
    rcases keyIs_shape ha with ⟨i, t, rfl, rfl⟩ | ⟨x, t, rfl, rfl⟩
    · rcases keyIs_shape hb with ⟨j, u, rfl, e⟩ | ⟨y, u, rfl, e⟩
      · injection e with e1 _; rw [e1]
      · exact nomatch e
    · rcases keyIs_shape hb with ⟨j, u, rfl, e⟩ | ⟨y, u, rfl, e⟩
      · exact nomatch e
      · injection e with e1 _; rw [e1]
  byValue := fun k v h => by
    rcases keyIs_shape h with ⟨i, t, rfl, rfl⟩ | ⟨x, t, rfl, rfl⟩ <;> rfl
  pyHash := fun hv h => by
    rcases keyIs_shape hv with ⟨i, t, rfl, rfl⟩ | ⟨x, t, rfl, rfl⟩
    · exact wpAny_pyHash_int h
    · exact wpAny_pyHash_str h
  eqBool := fun hu hv h => by
    rcases keyIs_shape hu with ⟨i, t, rfl, rfl⟩ | ⟨x, t, rfl, rfl⟩
    · rcases keyIs_shape hv with ⟨j, u, rfl, rfl⟩ | ⟨y, u, rfl, rfl⟩
      · rw [key_ll] at h; exact wpAny_eqBool_int h
      · rw [key_lr] at h; exact SeqAt.EqAt.int_str i t y u _ _ _ _ h
    · rcases keyIs_shape hv with ⟨j, u, rfl, rfl⟩ | ⟨y, u, rfl, rfl⟩
      · rw [key_rl] at h; exact SeqAt.EqAt.str_int x t j u _ _ _ _ h
      · rw [key_rr] at h; exact wpAny_eqBool_str h
  «strs» := fun k x t v h => by
    rcases keyIs_shape h with ⟨i, u, rfl, e⟩ | ⟨y, u, rfl, e⟩
    · exact nomatch e
    · injection e with e1 _
      subst e1
      cases v <;> rfl

end L2

namespace L2
open PySem PySem.Spec PyProof.Rows

/-- a value, without the heap -/
inductive V where
  | non | bl (b : Bool) | int (i : Int) | str (x : Str) | byt (b : Array UInt8) | flt (b : UInt64) | ref (a : Addr) | ty (n : String)
  deriving DecidableEq

def RelV : V → Value → Prop
  | .non, u => u = Value.none
  | .bl b, u => u = Value.bool b
  | .int i, u => ∃ t, u = Value.int i t
  | .str x, u => ∃ t, u = Value.str x t
  | .byt b, u => ∃ t, u = Value.bytes b t
  | .flt b, u => ∃ t, u = Value.float b t
  | .ref a, u => u = Value.ref a
  | .ty n, u => u = Value.type n

abbrev Vals : List V → List Value → Prop := Paired RelV
theorem Vals.length {xs : List V} {us : List Value} (r : Vals xs us) : xs.length = us.length := Paired.length r
theorem Vals.get : ∀ {xs : List V} {us : List Value} {i : Nat} {x : V}, Vals xs us → xs[i]? = some x → ∃ u, us[i]? = some u ∧ RelV x u
  | _, _, _, _, .nil, e => by simp at e
  | _, _, 0, _, .cons r _, e => by simp at e; subst e; exact ⟨_, rfl, r⟩
  | _, _, i + 1, x, .cons _ t, e => by
    obtain ⟨u, h1, h2⟩ := Vals.get (i := i) (x := x) t (by simpa using e)
    exact ⟨u, by simpa using h1, h2⟩
theorem Vals.append : ∀ {xs ys : List V} {us ws : List Value}, Vals xs us → Vals ys ws → Vals (xs ++ ys) (us ++ ws)
  | _, _, _, _, .nil, s => s
  | _, _, _, _, .cons r t, s => .cons r (Vals.append t s)
theorem Vals.take : ∀ {xs : List V} {us : List Value} (n : Nat), Vals xs us → Vals (xs.take n) (us.take n)
  | _, _, 0, _ => .nil
  | _, _, _ + 1, .nil => .nil
  | _, _, n + 1, .cons r t => .cons r (Vals.take n t)
theorem Vals.drop : ∀ {xs : List V} {us : List Value} (n : Nat), Vals xs us → Vals (xs.drop n) (us.drop n)
  | _, _, 0, r => r
  | _, _, _ + 1, .nil => .nil
  | _, _, n + 1, .cons _ t => Vals.drop n t
def RelO : Option V → Option Value → Prop
  | some v, some u => RelV v u
  | none, none => True
  | _, _ => False
def KV {κ : Type} : List (κ × V) → List (κ × Value) → Prop := Paired fun (p : κ × V) (q : κ × Value) => p.1 = q.1 ∧ RelV p.2 q.2

/-- a key of a dict (00_mix): an int or a text -/
def kV : Key → V
  | .inl i => .int i
  | .inr x => .str x

/-- what stands at a tracked address -/
inductive HO where
  /-- a list -/
  | lst (xs : List V)
  /-- a tuple (never changes) -/
  | tup (xs : List V)
  /-- a dict whose keys are ints and texts; one whose keys are tuples of ints and texts (the empty one is both) -/
  | dK (kvs : List (Key × V)) | dT (kvs : List (List Key × V))
  /-- a set of ints: its members, its size -/
  | set (S : Int → Bool) (n : Nat)
  /-- an instance of the class at C, its dict at dx, its attributes -/
  | ins (C dx : Addr) (fs : List (Str × V))
  /-- the dict of the instance at x -/
  | own (x : Addr)
  /-- the dict of an exception -/
  | xd (fs : List (Str × V))
  /-- a bound method, f of x -/
  | met (f x : Addr)
  /-- a range object lo, lo + 1, .. below hi -/
  | rng (lo hi : Int)
  /-- a thing that is known to the object (the script; a dict while a loop walks it): read, never written while it is so -/
  | frz (o : Obj) (u : HO)
  /-- a code object's table -/
  | tbl (ps : Array Value)
  /-- any other thing, by what is true of its one object (a def of one's own: SetO a S n := HO.ext fun h => ..) -/
  | ext (φ : Heap → Prop)

abbrev Hp := Addr → Option HO
def upd (H : Hp) (a : Addr) (o : HO) : Hp := fun b => if b = a then some o else H b
theorem upd_same {H : Hp} {a : Addr} {o : HO} : upd H a o a = some o := by unfold upd; rw [if_pos rfl]
theorem upd_ne {H : Hp} {a b : Addr} {o : HO} (h : b ≠ a) : upd H a o b = H b := by unfold upd; rw [if_neg h]
theorem ne_of_none {H : Hp} {a b : Addr} {o : HO} (h : H a = some o) (h' : H b = none) : a ≠ b := by
  intro e; subst e; rw [h] at h'; cases h'

section
variable (P : Program) (w : World)
def ObjOk (H : Hp) (h : Heap) (a : Addr) : HO → Prop
  | .lst xs => xs.length ≤ sizeLine ∧ ∃ (its : List Value) (n : Nat), Vals xs its ∧ h.get? a = some { cls := .type "list", data := .seq its.toArray n }
  | .tup xs => xs.length ≤ sizeLine ∧ ∃ its : List Value, Vals xs its ∧ IsTup h a its.toArray
  | .dK kvs => kvs.length ≤ sizeLine ∧ (a == sysModules) = false ∧ ∃ vs, KV kvs vs ∧ h.DictOf (mixKind P w) a vs
  | .dT kvs => kvs.length ≤ sizeLine ∧ (a == sysModules) = false ∧ ∃ xs : List (List Key × Addr × Value),
      Paired (fun (p : List Key × V) (q : List Key × Addr × Value) => p.1 = q.1 ∧ H q.2.1 = some (.tup (p.1.map kV)) ∧ RelV p.2 q.2.2) kvs xs ∧
      ∃ o es ep, h.get? a = some o ∧ o.ExactDict ∧ o.data = .dict es ep ∧ es.toList = xs.map (entryOfKey (tupleKind (mixKind P w))) ∧ (xs.map (·.1)).Nodup
  | .set S n => h.SetOf (intKind P w) a S n
  | .ins C dx fs => H dx = some (.own a) ∧ fs.length ≤ 1000 ∧ dx ≠ a ∧ h.get? a = some (PySem.W.instObj C dx) ∧
      ∃ mA, h.Ns1 dx mA ∧ (∀ f, RelO (fs.lookup f) (mA f)) ∧ PySem.Within mA (fs.map (·.1))
  | .own _ => ∃ o, h.get? a = some o
  | .xd fs => ∃ mA, h.Ns1 a mA ∧ ∀ f, RelO (fs.lookup f) (mA f)
  | .rng lo hi => ∃ t u v, h.get? a = some { cls := .type "range", data := .fields #[.int lo t, .int hi u, .int 1 v] }
  | .frz o u => h.get? a = some o ∧ ObjOk H h a u
  | .tbl ps => h.get? a = some { cls := .none, data := .fields ps }
  | .met f x => h.get? a = some (PySem.W.methodObj (.ref f) (.ref x))
  | .ext φ => φ h ∧ (∃ o, h.get? a = some o) ∧ ∀ h1 h2 : Heap, φ h1 → (∀ o, h1.get? a = some o → h2.get? a = some o) → φ h2
/-- the abstract heap is held -/
def HOk (H : Hp) (h : Heap) : Prop := ∀ a o, H a = some o → ObjOk P w H h a o
end

section
variable {P : Program} {w : World} {H H' : Hp} {h h' : Heap} {a : Addr} {o : HO}
theorem ObjOk.lt (x : ObjOk P w H h a o) : a < h.objs.size := by
  cases o with
  | lst xs => obtain ⟨_, _, _, _, e⟩ := x; exact Heap.lt_size e
  | tup xs => obtain ⟨_, _, _, p⟩ := x; exact p.lt
  | dK kvs => obtain ⟨_, _, _, _, o, _, _, e, _⟩ := x; exact Heap.lt_size e
  | dT kvs => obtain ⟨_, _, _, _, o, _, _, e, _⟩ := x; exact Heap.lt_size e
  | set S n => obtain ⟨o, _, _, _, e, _⟩ := x; exact Heap.lt_size e
  | ins C dx fs => obtain ⟨_, _, _, e, _⟩ := x; exact Heap.lt_size e
  | own y => obtain ⟨_, e⟩ := x; exact Heap.lt_size e
  | xd fs => obtain ⟨_, ⟨_, _, _, e, _⟩, _⟩ := x; exact Heap.lt_size e
  | rng lo hi => obtain ⟨_, _, _, e⟩ := x; exact Heap.lt_size e
  | frz ob u => obtain ⟨e, _⟩ := x; exact Heap.lt_size e
  | tbl ps => exact Heap.lt_size (show h.get? a = some _ from x)
  | met f y => exact Heap.lt_size (show h.get? a = some _ from x)
  | ext φ => obtain ⟨_, ⟨_, e⟩, _⟩ := x; exact Heap.lt_size e
theorem Paired.mapP {α β : Type} {F G : α → β → Prop} : ∀ {l₁ : List α} {l₂ : List β}, Paired F l₁ l₂ → (∀ a b, F a b → G a b) → Paired G l₁ l₂
  | _, _, .nil, _ => .nil
  | _, _, .cons r t, f => .cons (f _ _ r) (Paired.mapP t f)
/-- what an object's description leans on: its own object, its own dict, the tuples -/
theorem ObjOk.stay (x : ObjOk P w H h a o) (k : ∀ b u, (b = a ∨ H b = some (.own a)) → h.get? b = some u → h'.get? b = some u)
    (ho : ∀ b, H b = some (.own a) → H' b = some (.own a)) (ht : ∀ b xs, H b = some (.tup xs) → H' b = some (.tup xs)) : ObjOk P w H' h' a o := by
  induction o with
  | lst xs => obtain ⟨z, its, n, r, e⟩ := x; exact ⟨z, its, n, r, k _ _ (.inl rfl) e⟩
  | tup xs => obtain ⟨z, its, r, ob, e, c⟩ := x; exact ⟨z, its, r, ob, k _ _ (.inl rfl) e, c⟩
  | dK kvs => obtain ⟨z, y, vs, r, ob, es, ep, e, c⟩ := x; exact ⟨z, y, vs, r, ob, es, ep, k _ _ (.inl rfl) e, c⟩
  | dT kvs =>
    obtain ⟨z, y, xs, r, ob, es, ep, e, c⟩ := x
    exact ⟨z, y, xs, Paired.mapP r fun p q z => ⟨z.1, ht _ _ z.2.1, z.2.2⟩, ob, es, ep, k _ _ (.inl rfl) e, c⟩
  | set S n => obtain ⟨ob, es, ep, t, e, c⟩ := x; exact ⟨ob, es, ep, t, k _ _ (.inl rfl) e, c⟩
  | ins C dx fs =>
    obtain ⟨d, z, ne, e, mA, ⟨od, es, ep, e2, c⟩, r⟩ := x
    exact ⟨ho _ d, z, ne, k _ _ (.inl rfl) e, mA, ⟨od, es, ep, k _ _ (.inr d) e2, c⟩, r⟩
  | own y => obtain ⟨ob, e⟩ := x; exact ⟨ob, k _ _ (.inl rfl) e⟩
  | xd fs => obtain ⟨mA, ⟨od, es, ep, e, c⟩, r⟩ := x; exact ⟨mA, ⟨od, es, ep, k _ _ (.inl rfl) e, c⟩, r⟩
  | rng lo hi => obtain ⟨t, u, v, e⟩ := x; exact ⟨t, u, v, k _ _ (.inl rfl) e⟩
  | frz ob u ih => obtain ⟨e, q⟩ := x; exact ⟨k _ _ (.inl rfl) e, ih q⟩
  | tbl ps =>
    have e : h.get? a = some { cls := .none, data := .fields ps } := x
    show h'.get? a = some { cls := .none, data := .fields ps }
    exact k a _ (.inl rfl) e
  | met f y =>
    have e : h.get? a = some (PySem.W.methodObj (.ref f) (.ref y)) := x
    show h'.get? a = some (PySem.W.methodObj (.ref f) (.ref y))
    exact k a _ (.inl rfl) e
  | ext φ => obtain ⟨p, ⟨o, e⟩, st⟩ := x; exact ⟨st _ _ p fun o q => k _ _ (.inl rfl) q, ⟨o, k _ _ (.inl rfl) e⟩, st⟩
theorem HOk.lt (x : HOk P w H h) (e : H a = some o) : a < h.objs.size := (x a o e).lt
theorem HOk.fresh (x : HOk P w H h) (e : h.objs.size ≤ a) : H a = none := by
  cases q : H a with
  | none => rfl
  | some u => exact absurd (Nat.lt_of_lt_of_le (x.lt q) e) (Nat.lt_irrefl _)
/-- every object of the heap is kept -/
theorem HOk.kept (x : HOk P w H h) (k : ∀ b u, h.get? b = some u → h'.get? b = some u) : HOk P w H h' := fun a o e =>
  (x a o e).stay (fun b u _ q => k b u q) (fun _ q => q) fun _ _ q => q
/-- a new object is laid and tracked -/
theorem HOk.laid (x : HOk P w H h) (k : ∀ b u, h.get? b = some u → h'.get? b = some u) (hp : h.objs.size ≤ a) (new : ObjOk P w (upd H a o) h' a o) : HOk P w (upd H a o) h' := fun b u e => by
  have hn := x.fresh hp
  by_cases hb : b = a
  · subst hb; rw [upd_same] at e; cases e; exact new
  · rw [upd_ne hb] at e
    exact (x b u e).stay (fun c v _ q => k c v q) (fun c q => by rw [upd_ne (ne_of_none q hn)]; exact q) fun c xs q => by rw [upd_ne (ne_of_none q hn)]; exact q
end

/-- what may be read as u: it is u, or a known u -/
def Rd (H : Hp) (a : Addr) (u : HO) : Prop := H a = some u ∨ ∃ o, H a = some (.frz o u)
theorem Rd.ok {P : Program} {w : World} {H : Hp} {h : Heap} {a : Addr} {u : HO} (r : Rd H a u) (x : HOk P w H h) : ObjOk P w H h a u := by
  rcases r with r | ⟨o, r⟩
  · exact x a u r
  · obtain ⟨_, q⟩ := x a _ r
    exact q
/-- what may be written -/
def Mut : Option HO → Prop
  | some (.lst _) => True
  | some (.dK _) => True
  | some (.dT _) => True
  | some (.set _ _) => True
  | some (.ins _ _ _) => True
  | some (.ext _) => True
  | _ => False
section
variable {P : Program} {w : World} {H : Hp} {h h' : Heap} {x e : Addr} {o' : HO}
/-- the object at e is changed: x itself, or the dict of the instance x -/
theorem HOk.write (ok : HOk P w H h) (mu : Mut (H x)) (he : e = x ∨ H e = some (.own x)) (k : ∀ b u, b ≠ e → h.get? b = some u → h'.get? b = some u) (heo : ∃ u, h'.get? e = some u)
    (new : ObjOk P w (upd H x o') h' x o') : HOk P w (upd H x o') h' := fun b u q => by
  have nown : ∀ c y, H c = some (.own y) → c ≠ x := fun c y r z => by subst z; rw [r] at mu; exact mu
  have ntup : ∀ c xs, H c = some (.tup xs) → c ≠ x := fun c xs r z => by subst z; rw [r] at mu; exact mu
  by_cases hb : b = x
  · subst hb; rw [upd_same] at q; cases q; exact new
  · rw [upd_ne hb] at q
    by_cases hbe : b = e
    · have q' : H b = some (.own x) := by
        rcases he with z | z
        · exact absurd (hbe.trans z) hb
        · rw [hbe]; exact z
      rw [q] at q'; cases q'
      obtain ⟨v, hv⟩ := heo
      exact ⟨v, by rw [hbe]; exact hv⟩
    · refine (ok b u q).stay (fun c v hc r => k c v ?_ r) (fun c r => by rw [upd_ne (nown c b r)]; exact r) fun c xs r => by rw [upd_ne (ntup c xs r)]; exact r
      rcases hc with rfl | hc
      · exact hbe
      · rintro rfl
        rcases he with z | z
        · exact nown c b hc z
        · rw [hc] at z; cases z; exact hb rfl
end

/-! ### kept unless tracked; of the frames at fs (the callers') the slots may change (an exception that passes writes there); of the records at ex (iterators) nothing is said -/
structure Un (fs ex : List Addr) (H H' : Hp) (h h' : Heap) : Prop where
  keep : ∀ b o, h.get? b = some o → H b = none → b ∉ fs → b ∉ ex → h'.get? b = some o
  slot : ∀ b o, h.get? b = some o → H b = none → b ∈ fs → b ∉ ex → ∃ sl, h'.get? b = some { o with slots := sl }
  free : ∀ b o, h.get? b = some o → H b = none → b ∉ ex → H' b = none
  there : ∀ b o, h.get? b = some o → b ∉ ex → ∃ o', h'.get? b = some o'
  tups : ∀ b xs, H b = some (.tup xs) → H' b = some (.tup xs)
  frzs : ∀ b o u, H b = some (.frz o u) → H' b = some (.frz o u)
  tbls : ∀ b ps, H b = some (.tbl ps) → ∃ more, H' b = some (.tbl (ps ++ more))
section
variable {fs fs' ex ex' : List Addr} {H H1 H2 : Hp} {h h1 h2 h' : Heap} {a x e : Addr} {o : HO}
theorem Un.any (u : Un fs ex H H1 h h1) {b : Addr} {ob : Obj} (q : h.get? b = some ob) (n : H b = none) (hx : b ∉ ex) : ∃ sl, h1.get? b = some { ob with slots := sl } := by
  by_cases hb : b ∈ fs
  · exact u.slot b ob q n hb hx
  · exact ⟨ob.slots, u.keep b ob q n hb hx⟩
theorem Un.kept (k : ∀ b u, h.get? b = some u → h'.get? b = some u) : Un fs ex H H h h' :=
  ⟨fun b ob q _ _ _ => k b ob q, fun b ob q _ _ _ => ⟨ob.slots, k b ob q⟩, fun _ _ _ n _ => n, fun b ob q _ => ⟨ob, k b ob q⟩, fun _ _ q => q, fun _ _ _ q => q, fun _ ps q => ⟨#[], by rw [q]; simp⟩⟩
theorem Un.refl : Un fs ex H H h h := Un.kept fun _ _ q => q
theorem Un.laid (k : ∀ b u, h.get? b = some u → h'.get? b = some u) (hp : h.objs.size ≤ a) (hn : H a = none) : Un fs ex H (upd H a o) h h' where
  keep := fun b u q _ _ _ => k b u q
  slot := fun b u q _ _ _ => ⟨u.slots, k b u q⟩
  free := fun b u q n _ => by rw [upd_ne (Nat.ne_of_lt (Nat.lt_of_lt_of_le (Heap.lt_size q) hp))]; exact n
  there := fun b u q _ => ⟨u, k b u q⟩
  tups := fun b xs q => by rw [upd_ne (ne_of_none q hn)]; exact q
  frzs := fun b u xs q => by rw [upd_ne (ne_of_none q hn)]; exact q
  tbls := fun b ps q => ⟨#[], by rw [upd_ne (ne_of_none q hn), q]; simp⟩
theorem Un.write (mu : Mut (H x)) (he : e = x ∨ H e = some (.own x)) (k : ∀ b u, b ≠ e → h.get? b = some u → h'.get? b = some u) (heo : ∃ u, h'.get? e = some u) : Un fs ex H (upd H x o) h h' := by
  have hx : ∀ b, H b = none → b ≠ x := fun b n z => by subst z; rw [n] at mu; exact mu
  have hb : ∀ b, H b = none → b ≠ e := fun b n z => by
    subst z
    rcases he with r | r
    · exact hx b n r
    · rw [n] at r; cases r
  have hm : ∀ b u, H b = some u → ¬ Mut (some u) → b ≠ x := fun b u q nm z => by subst z; rw [q] at mu; exact nm mu
  refine ⟨fun b u q n _ _ => k b u (hb b n) q, fun b u q n _ _ => ⟨u.slots, k b u (hb b n) q⟩, fun b u q n _ => by rw [upd_ne (hx b n)]; exact n, fun b u q _ => ?_,
    fun b xs q => by rw [upd_ne (hm b _ q fun z => z)]; exact q, fun b u xs q => by rw [upd_ne (hm b _ q fun z => z)]; exact q, fun b ps q => ⟨#[], by rw [upd_ne (hm b _ q fun z => z), q]; simp⟩⟩
  by_cases hbe : b = e
  · subst hbe; exact heo
  · exact ⟨u, k b u hbe q⟩
end

/-! ### the heap without what is tracked -/
def trk (h : Heap) (H : Hp) : List Addr := (List.range h.objs.size).filter fun a => (H a).isSome
def hidT (h : Heap) (H : Hp) : Heap := PySem.W.hideAll h (trk h H)
theorem hidT_size (h : Heap) (H : Hp) : (hidT h H).objs.size = h.objs.size := PySem.W.hideAll_size _ _
theorem hidT_get {h : Heap} {H : Hp} {b : Addr} {o : Obj} (e : h.get? b = some o) (n : H b = none) : (hidT h H).get? b = some o :=
  PySem.W.hideAll_get _ e fun hm => by
    have q : (H b).isSome = true := (List.mem_filter.mp hm).2
    rw [n] at q; simp at q
theorem of_hidT {h : Heap} {H : Hp} {b : Addr} {o : Obj} (e : (hidT h H).get? b = some o) : h.get? b = some o ∧ H b = none := by
  have e' : h.get? b = some o := PySem.W.of_hideAll (trk h H) e
  refine ⟨e', ?_⟩
  cases q : H b with
  | none => rfl
  | some x =>
    have hm : b ∈ trk h H := List.mem_filter.mpr ⟨List.mem_range.mpr (Heap.lt_size e'), by simp [q]⟩
    have z : (hidT h H).get? b = none := PySem.W.hideAll_none (trk h H) hm
    rw [z] at e; cases e

/-! ### OpenK's ledger, filled with every new object but one -/
def allNews (g h : Heap) (L : Addr) : List (Addr × Obj) := (List.range h.objs.size).filterMap fun a => if a = L ∨ (g.get? a).isSome = true then none else (h.get? a).map fun o => (a, o)
def rest (g h : Heap) (L d : Addr) : List (Addr × Obj) := (allNews g h L).filter fun p => decide (p.1 ≠ d)
end L2

namespace L2
open PySem PySem.Spec PyProof.Rows

/-- the module's facts, over the base: the heap at the law's entry without what is tracked there -/
structure Mod (K : PySem.W.Frag) (mg : Str → Option Value) (base : Heap) : Prop where
  kin : K.In base
  glob : base.Ns mainGlobals mg
  blt : ∃ mb, base.Ns builtinsNs mb ∧ ∀ x : Str, x ≠ "__name__" → mb x = bootBuiltins x
  nolimit : base.NoLimit

/-- the context: a def's body (or a comprehension's block) running. base: fixed through the whole law; s₀, H₀: the entry; outer: the frames whose slots others may change (a def's callers); stack: all frames that run;
   ex: iterators that were made ahead of the entry and are walked here (a comprehension's); fn: the names whose cells were made at the entry (a def: all; a comprehension's block: its own); calm: not within an except suite; pn: pins that every state bears; xe: what is wanted of an exception that leaves the code -/
structure Cx where
  prog : Program
  w : World
  K : PySem.W.Frag
  mg : Str → Option Value
  base : Heap
  A : Around
  N : List Str
  s₀ : Shared
  H₀ : Hp
  env : Env
  outer : List Env
  stack : List Env
  ex : List Addr
  fn : Str → Bool
  calm : Bool
  pn : List (Addr × Obj)
  xe : Value → Shared → Prop
/-- the callers' frames -/
def frs (l : List Env) : List Addr := l.filterMap (·.frame)
abbrev Cx.fs (X : Cx) : List Addr := frs X.outer

def Vis (sc : Scope) (x : Str) : Prop := sc.names.lookup x = some .local ∨ sc.names.lookup x = some .cell ∨ sc.names.lookup x = some .free
def Loc (sc : Scope) (x : Str) : Prop := sc.names.lookup x = some .local ∨ sc.names.lookup x = some .cell
def Look (env : Env) (h : Heap) (m : Str → Option Value) (x : Str) (u : Value) : Prop :=
  (env.kindOf x = some .local ∧ m x = some u) ∨ ((env.kindOf x = some .cell ∨ env.kindOf x = some .free) ∧ ∃ c, env.cells.lookup x = some c ∧ h.IsCell c (some u))

structure Cx.Ok (X : Cx) : Prop where
  mod : Mod X.K X.mg X.base
  kind : X.env.scope.kind = .function
  glob : X.env.globals = mainGlobals
  blt : X.env.builtins = builtinsNs
  above : X.s₀.heap.objs.size ≤ X.env.locals
  inj : ∀ x y c, X.env.cells.lookup x = some c → X.env.cells.lookup y = some c → x = y
  has : ∀ x, (X.env.kindOf x = some .cell ∨ X.env.kindOf x = some .free) → ∃ c, X.env.cells.lookup x = some c
  cab : ∀ x c, X.fn x = true → X.env.cells.lookup x = some c → X.s₀.heap.objs.size ≤ c
  hd : X.calm = true → X.A.handled = none
  frames : X.A.frames = some X.stack
  stk : X.stack = X.outer ∨ (X.stack = X.env :: X.outer ∧ X.env.frame = some X.env.locals)
  exf : ∀ b ∈ X.ex, b ≠ X.env.locals ∧ ∀ x c, X.env.cells.lookup x = some c → c ≠ b
  bs : ∀ b o, X.base.get? b = some o → X.s₀.heap.get? b = some o ∧ X.H₀ b = none
  bsz : X.base.objs.size ≤ X.s₀.heap.objs.size
  noex : ∀ b o, X.base.get? b = some o → b ∉ X.ex
  exfs : ∀ b ∈ X.ex, b ∉ X.fs
  funs : X.s₀.heap.FunFrames X.base X.outer
  frf : ∀ b ∈ X.fs, X.H₀ b = none

structure Inv (X : Cx) (pins : List (Addr × Obj)) (σ : List (Option V)) (H : Hp) (s : Shared) : Prop where
  ok : X.Ok
  os : s.os = X.s₀.os
  bare : AllBare s.gens
  base : Un X.fs X.ex X.H₀ H X.s₀.heap s.heap
  loc : ∃ m, s.heap.Ns X.env.locals m ∧ ∀ (i : Nat) (x : Str) (v : V), X.N[i]? = some x → σ[i]? = some (some v) → Vis X.env.scope x → ∃ u, RelV v u ∧ Look X.env s.heap m x u
  cell : ∀ x c, X.env.cells.lookup x = some c → ∃ v, s.heap.IsCell c v
  free : H X.env.locals = none
  freeC : ∀ x c, X.env.cells.lookup x = some c → H c = none
  pin : ∀ p ∈ X.pn ++ pins, s.heap.get? p.1 = some p.2 ∧ H p.1 = none ∧ p.1 ≠ X.env.locals ∧ p.1 ∉ X.fs ∧ ∀ v, p.2.data ≠ .cell v
  hok : HOk X.prog X.w H s.heap
  len : σ.length = X.N.length

section
variable {X : Cx} {pins : List (Addr × Obj)} {σ : List (Option V)} {H H' : Hp} {s : Shared} {h' : Heap}

theorem Cx.Ok.nofr (ok : X.Ok) {b : Addr} {o : Obj} (e : X.base.get? b = some o) : b ∉ X.fs := fun hb => by
  have := (ok.funs.mem hb).1
  rw [e] at this; cases this
theorem Inv.bs (I : Inv X pins σ H s) : ∀ b o, X.base.get? b = some o → s.heap.get? b = some o ∧ H b = none := fun b o e =>
  ⟨I.base.keep b o (I.ok.bs b o e).1 (I.ok.bs b o e).2 (I.ok.nofr e) (I.ok.noex b o e), I.base.free b o (I.ok.bs b o e).1 (I.ok.bs b o e).2 (I.ok.noex b o e)⟩
theorem Inv.bk (I : Inv X pins σ H s) : ∀ b o, X.base.get? b = some o → s.heap.get? b = some o := fun b o e => (I.bs b o e).1
theorem Inv.mod (I : Inv X pins σ H s) : Mod X.K X.mg X.base := I.ok.mod
theorem Inv.kIn (I : Inv X pins σ H s) : X.K.In s.heap := I.ok.mod.kin.keeps I.bk
/-- the frame over the base: for OpenK's rules (K.In X.base is I.mod.kin) -/
theorem Inv.fr (I : Inv X pins σ H s) : ∃ m, Fr X.base X.env.locals s.heap m :=
  let ⟨m, hn, _⟩ := I.loc
  ⟨m, hn, I.bk, Nat.le_trans I.ok.bsz I.ok.above⟩
theorem Inv.lt (I : Inv X pins σ H s) : X.env.locals < s.heap.objs.size := let ⟨_, hn, _⟩ := I.loc; hn.lt
theorem Inv.sz (I : Inv X pins σ H s) : X.s₀.heap.objs.size ≤ s.heap.objs.size := Nat.le_trans I.ok.above (Nat.le_of_lt I.lt)
theorem Inv.nofs (I : Inv X pins σ H s) {a : Addr} (h : s.heap.objs.size ≤ a) : a ∉ X.fs := fun hb => by
  obtain ⟨_, o, ho, _⟩ := I.ok.funs.mem hb
  exact absurd (Nat.lt_of_lt_of_le (Heap.lt_size ho) (Nat.le_trans I.sz h)) (Nat.lt_irrefl _)
theorem Inv.cne (I : Inv X pins σ H s) : ∀ x c, X.env.cells.lookup x = some c → c ≠ X.env.locals := fun x c e z => by
  obtain ⟨v, o, ho, hd⟩ := I.cell x c e
  obtain ⟨m, ⟨o', es, ep, ho', hd', _⟩, _⟩ := I.loc
  rw [z, ho'] at ho; cases ho; rw [hd'] at hd; cases hd
theorem Inv.funs (I : Inv X pins σ H s) : s.heap.FunFrames X.base X.outer := by
  have all : ∀ (l : List Env), (∀ b ∈ frs l, b ∈ X.fs) → X.s₀.heap.FunFrames X.base l → s.heap.FunFrames X.base l := by
    intro l
    induction l with
    | nil => intro _ _; trivial
    | cons env r ih =>
      intro hs hl
      obtain ⟨hk, ⟨L, o, hf, hn, ho, hd⟩, hr⟩ := hl
      have hL : L ∈ X.fs := hs L (by unfold frs; rw [List.filterMap_cons, hf]; exact List.mem_cons_self)
      obtain ⟨sl, e⟩ := I.base.slot L o ho (I.ok.frf L hL) hL fun z => I.ok.exfs L z hL
      exact ⟨hk, ⟨L, _, hf, hn, e, hd⟩, ih (fun b hb => hs b (by unfold frs; rw [List.filterMap_cons, hf]; exact List.mem_cons_of_mem _ hb)) hr⟩
  exact all X.outer (fun _ hb => hb) I.ok.funs

/-- the frames that run, for a call -/
theorem Inv.stack (I : Inv X pins σ H s) : s.heap.FunFrames X.base X.stack := by
  rcases I.ok.stk with e | ⟨e, hf⟩
  · rw [e]; exact I.funs
  · rw [e]
    obtain ⟨m, hn, _⟩ := I.loc
    refine .cons (by rw [I.ok.kind]; decide) hf hn ?_ I.funs
    exact Heap.get?_none_of_le (Nat.le_trans I.ok.bsz I.ok.above)
theorem Inv.stkSub (I : Inv X pins σ H s) : ∀ b ∈ frs X.stack, b ∈ X.env.locals :: X.fs := fun b hb => by
  rcases I.ok.stk with e | ⟨e, hf⟩
  · rw [e] at hb; exact List.mem_cons_of_mem _ hb
  · rw [e] at hb
    unfold frs at hb
    rw [List.filterMap_cons, hf] at hb
    exact hb
theorem Inv.stkFree (I : Inv X pins σ H s) : ∀ b ∈ frs X.stack, H b = none := fun b hb => by
  rcases List.mem_cons.mp (I.stkSub b hb) with e | hb
  · rw [e]; exact I.free
  · obtain ⟨_, o, ho, _⟩ := I.ok.funs.mem hb
    exact I.base.free b o ho (I.ok.frf b hb) fun z => I.ok.exfs b z hb

/-- THE STEP: the untracked objects but the frame and the records at ch are kept (the callers' frames up to slots), the frame's map is kept, the new abstract heap is held -/
theorem Inv.step {g' : Array GenState} {t' : Nat} {d' : Drawn} {ch : List Addr} (I : Inv X pins σ H s)
    (hch : ∀ b ∈ ch, (b ∈ X.ex ∨ X.s₀.heap.objs.size ≤ b) ∧ b ≠ X.env.locals ∧ (∀ x c, X.env.cells.lookup x = some c → c ≠ b) ∧ ∀ p ∈ X.pn ++ pins, p.1 ≠ b)
    (keep : ∀ b o, b ≠ X.env.locals → b ∉ X.fs → b ∉ ch → s.heap.get? b = some o → H b = none → h'.get? b = some o)
    (slot : ∀ b o, b ≠ X.env.locals → b ∈ X.fs → b ∉ ch → s.heap.get? b = some o → H b = none → ∃ sl, h'.get? b = some { o with slots := sl }) (free : ∀ b o, b ∉ ch → s.heap.get? b = some o → H b = none → H' b = none)
    (there : ∀ b o, b ∉ ch → s.heap.get? b = some o → ∃ o', h'.get? b = some o')
    (tups : ∀ b xs, H b = some (.tup xs) → H' b = some (.tup xs)) (frzs : ∀ b o u, H b = some (.frz o u) → H' b = some (.frz o u)) (tbls : ∀ b ps, H b = some (.tbl ps) → ∃ more, H' b = some (.tbl (ps ++ more)))
    (ns : ∀ m, s.heap.Ns X.env.locals m → h'.Ns X.env.locals m) (hok : HOk X.prog X.w H' h') (hg : AllBare g') :
    Inv X pins σ H' { s with heap := h', gens := g', drawn := d', toks := t' } := by
  have neL : ∀ b o, X.s₀.heap.get? b = some o → b ≠ X.env.locals := fun b o e => Nat.ne_of_lt (Nat.lt_of_lt_of_le (Heap.lt_size e) I.ok.above)
  have neC : ∀ b o, X.s₀.heap.get? b = some o → b ∉ X.ex → b ∉ ch := fun b o e hx hb => by
    rcases (hch b hb).1 with z | z
    · exact hx z
    · exact absurd (Nat.lt_of_lt_of_le (Heap.lt_size e) z) (Nat.lt_irrefl _)
  have cellK : ∀ x c, X.env.cells.lookup x = some c → ∀ v, s.heap.IsCell c v → h'.IsCell c v := fun x c e v ⟨o, ho, hd⟩ => by
    have nch : c ∉ ch := fun z => (hch c z).2.2.1 x c e rfl
    by_cases hc : c ∈ X.fs
    · obtain ⟨sl, q⟩ := slot c o (I.cne x c e) hc nch ho (I.freeC x c e)
      exact ⟨_, q, hd⟩
    · exact ⟨o, keep c o (I.cne x c e) hc nch ho (I.freeC x c e), hd⟩
  refine ⟨I.ok, I.os, hg, ⟨fun b o e n hb hx => ?_, fun b o e n hb hx => ?_, fun b o e n hx => ?_, fun b o e hx => ?_, fun b xs e => tups b xs (I.base.tups b xs e), fun b o xs e => frzs b o xs (I.base.frzs b o xs e), fun b ps e => ?_⟩, ?_, fun x c e => ?_, ?_, fun x c e => ?_, fun p hp => ?_, hok, I.len⟩
  · exact keep b o (neL b o e) hb (neC b o e hx) (I.base.keep b o e n hb hx) (I.base.free b o e n hx)
  · obtain ⟨sl, e1⟩ := I.base.slot b o e n hb hx
    obtain ⟨sl', e2⟩ := slot b _ (neL b o e) hb (neC b o e hx) e1 (I.base.free b o e n hx)
    exact ⟨sl', e2⟩
  · obtain ⟨o', e1⟩ := I.base.there b o e hx
    exact free b o' (neC b o e hx) e1 (I.base.free b o e n hx)
  · obtain ⟨o', e1⟩ := I.base.there b o e hx
    exact there b o' (neC b o e hx) e1
  · obtain ⟨m1, e1⟩ := I.base.tbls b ps e
    obtain ⟨m2, e2⟩ := tbls b _ e1
    exact ⟨m1 ++ m2, by rw [e2, Array.append_assoc]⟩
  · obtain ⟨m, hn, hl⟩ := I.loc
    refine ⟨m, ns m hn, fun i x v e1 e2 e3 => ?_⟩
    obtain ⟨u, r, l⟩ := hl i x v e1 e2 e3
    refine ⟨u, r, ?_⟩
    rcases l with l | ⟨k, c, e, z⟩
    · exact .inl l
    · exact .inr ⟨k, c, e, cellK x c e _ z⟩
  · obtain ⟨v, z⟩ := I.cell x c e
    exact ⟨v, cellK x c e v z⟩
  · obtain ⟨m, ⟨o, _, _, ho, _⟩, _⟩ := I.loc
    exact free _ o (fun z => (hch _ z).2.1 rfl) ho I.free
  · obtain ⟨v, o, ho, hd⟩ := I.cell x c e
    exact free c o (fun z => (hch c z).2.2.1 x c e rfl) ho (I.freeC x c e)
  · obtain ⟨e, n, ne, nf, d⟩ := I.pin p hp
    have nch : p.1 ∉ ch := fun z => (hch p.1 z).2.2.2 p hp rfl
    exact ⟨keep p.1 p.2 ne nf nch e n, free p.1 p.2 nch e n, ne, nf, d⟩
/-- .. where the frame's own object is kept too -/
theorem Inv.un {t' : Nat} (I : Inv X pins σ H s) (u : Un X.fs [] H H' s.heap h') (hok : HOk X.prog X.w H' h') : Inv X pins σ H' { s with heap := h', toks := t' } := by
  obtain ⟨m, ⟨o, es, ep, ho, r⟩, _⟩ := id I.loc
  obtain ⟨sl, hL⟩ := u.any ho I.free (by simp)
  exact I.step (g' := s.gens) (d' := s.drawn) (ch := []) (fun _ z => nomatch z) (fun b o _ hb _ e n => u.keep b o e n hb (by simp)) (fun b o _ hb _ e n => u.slot b o e n hb (by simp)) (fun b o _ e n => u.free b o e n (by simp)) (fun b o _ e => u.there b o e (by simp)) u.tups u.frzs u.tbls (fun m' hm => by
    obtain ⟨o', es', ep', ho', r'⟩ := hm
    rw [ho] at ho'; cases ho'
    exact ⟨_, es', ep', hL, r'⟩) hok I.bare
/-- behind a call (or a comprehension's block): the slots of this frame may have changed too, the records at ch may have turned -/
theorem Inv.call {g' : Array GenState} {t' : Nat} {d' : Drawn} {ch : List Addr} (I : Inv X pins σ H s) (u : Un (frs X.stack) ch H H' s.heap h') (hok : HOk X.prog X.w H' h') (hg : AllBare g')
    (hch : ∀ b ∈ ch, (b ∈ X.ex ∨ X.s₀.heap.objs.size ≤ b) ∧ b ≠ X.env.locals ∧ (∀ x c, X.env.cells.lookup x = some c → c ≠ b) ∧ ∀ p ∈ X.pn ++ pins, p.1 ≠ b) :
    Inv X pins σ H' { s with heap := h', gens := g', drawn := d', toks := t' } := by
  obtain ⟨m, ⟨o, es, ep, ho, r⟩, _⟩ := id I.loc
  obtain ⟨sl, hL⟩ := u.any ho I.free fun z => (hch _ z).2.1 rfl
  exact I.step (ch := ch) hch (fun b o hL hb hc e n => u.keep b o e n (fun z => (List.mem_cons.mp (I.stkSub b z)).elim hL hb) hc) (fun b o _ _ hc e n => u.any e n hc) (fun b o hc e n => u.free b o e n hc) (fun b o hc e => u.there b o e hc) u.tups u.frzs u.tbls (fun m' hm => by
    obtain ⟨o', es', ep', ho', r'⟩ := hm
    rw [ho] at ho'; cases ho'
    exact ⟨_, es', ep', hL, r'⟩) hok hg
/-- an untracked record of ours (an iterator) has turned -/
theorem Inv.turned {t' : Nat} {it : Addr} (I : Inv X pins σ H s) (k : ∀ b o, b ≠ it → s.heap.get? b = some o → h'.get? b = some o) (hn : H it = none) (hL : it ≠ X.env.locals)
    (h1 : it ∈ X.ex ∨ X.s₀.heap.objs.size ≤ it) (h2 : ∀ x c, X.env.cells.lookup x = some c → c ≠ it) (h3 : ∀ p ∈ X.pn ++ pins, p.1 ≠ it) : Inv X pins σ H { s with heap := h', toks := t' } := by
  have nit : ∀ b u, H b = some u → b ≠ it := fun b u e z => by rw [z, hn] at e; cases e
  refine I.step (g' := s.gens) (d' := s.drawn) (ch := [it]) (fun b hb => ?_) (fun b o _ _ hc e _ => k b o (fun z => hc (by simp [z])) e) (fun b o _ _ hc e _ => ⟨o.slots, k b o (fun z => hc (by simp [z])) e⟩) (fun _ _ _ _ n => n)
    (fun b o hc e => ⟨o, k b o (fun z => hc (by simp [z])) e⟩) (fun _ _ e => e) (fun _ _ _ e => e) (fun b ps e => ⟨#[], by rw [e]; simp⟩) (fun m hm => ?_) (fun b u e => ?_) I.bare
  · have e : b = it := by simpa using hb
    subst e
    exact ⟨h1, hL, h2, h3⟩
  · obtain ⟨o, es, ep, ho, r⟩ := hm
    exact ⟨o, es, ep, k _ o (Ne.symm hL) ho, r⟩
  · refine (I.hok b u e).stay (fun c v hc q => k c v ?_ q) (fun _ q => q) fun _ _ q => q
    rcases hc with z | z
    · rw [z]; exact nit b u e
    · exact nit c _ z
theorem Inv.tok (I : Inv X pins σ H s) (t : Nat) : Inv X pins σ H { s with toks := t } := I.un (h' := s.heap) (t' := t) Un.refl I.hok
/-- all objects kept -/
theorem Inv.kept {t' : Nat} (I : Inv X pins σ H s) (k : ∀ b u, s.heap.get? b = some u → h'.get? b = some u) : Inv X pins σ H { s with heap := h', toks := t' } := I.un (Un.kept k) (I.hok.kept k)
/-- a new object laid and tracked -/
theorem Inv.laid {a : Addr} {o : HO} {t' : Nat} (I : Inv X pins σ H s) (k : ∀ b u, s.heap.get? b = some u → h'.get? b = some u) (hp : s.heap.objs.size ≤ a) (new : ObjOk X.prog X.w (upd H a o) h' a o) :
    Inv X pins σ (upd H a o) { s with heap := h', toks := t' } := I.un (Un.laid k hp (I.hok.fresh hp)) (I.hok.laid k hp new)
/-- an object written -/
theorem Inv.write {x e : Addr} {o : HO} {t' : Nat} (I : Inv X pins σ H s) (mu : Mut (H x)) (he : e = x ∨ H e = some (.own x)) (k : ∀ b u, b ≠ e → s.heap.get? b = some u → h'.get? b = some u) (heo : ∃ u, h'.get? e = some u)
    (new : ObjOk X.prog X.w (upd H x o) h' x o) : Inv X pins σ (upd H x o) { s with heap := h', toks := t' } := I.un (Un.write mu he k heo) (I.hok.write mu he k heo new)
theorem Inv.pins_of {pins' : List (Addr × Obj)} (I : Inv X pins σ H s) (h : ∀ p ∈ pins', s.heap.get? p.1 = some p.2 ∧ H p.1 = none ∧ p.1 ≠ X.env.locals ∧ p.1 ∉ X.fs ∧ ∀ v, p.2.data ≠ .cell v) : Inv X pins' σ H s :=
  ⟨I.ok, I.os, I.bare, I.base, I.loc, I.cell, I.free, I.freeC, fun p hp => (List.mem_append.mp hp).elim (fun z => I.pin p (List.mem_append_left _ z)) (h p), I.hok, I.len⟩

theorem nodup_ix {N : List Str} (hN : N.Nodup) {i j : Nat} {x : Str} (a : N[i]? = some x) (b : N[j]? = some x) : i = j := by
  obtain ⟨h1, e1⟩ := List.getElem?_eq_some_iff.mp a
  obtain ⟨h2, e2⟩ := List.getElem?_eq_some_iff.mp b
  exact (List.getElem_inj hN).mp (e1.trans e2.symm)

/-- a name is stored; what changed -/
theorem store_ok2 {M : Model} {A : Around} {E : Value → Shared → Prop} {i : Nat} {x : Str} {v : V} {u : Value} {Q : Unit → Shared → Prop} (I : Inv X pins σ H s) (hN : X.N.Nodup) (hi : X.N[i]? = some x) (hx : Loc X.env.scope x) (r : RelV v u)
    (h : ∀ s', Inv X pins (σ.set i (some v)) H s' → (∃ a, Heap.SameBut a s.heap s'.heap ∧ (a = X.env.locals ∨ X.env.cells.lookup x = some a)) → Q () s') (hf : X.fn x = true ∨ X.env.scope.names.lookup x = some .local := by first | exact .inl rfl | exact .inr rfl | assumption) : wpAny M A (storeName X.env x u) Q E s := by
  obtain ⟨m, hn, hl⟩ := id I.loc
  have hcls : (X.env.scope.kind == .class || (X.env.scope.kind == .module && X.env.locals != X.env.globals)) = false := by rw [I.ok.kind]; rfl
  have hiσ : i < σ.length := by rw [I.len]; exact (List.getElem?_eq_some_iff.mp hi).1
  have cne := I.cne
  have tracked : ∀ {a : Addr} {h' : Heap}, (∃ o, s.heap.get? a = some o ∧ H a = none) → Heap.SameBut a s.heap h' → HOk X.prog X.w H h' := fun {a h'} ha hs b ob e => by
    obtain ⟨_, _, hfree⟩ := ha
    refine (I.hok b ob e).stay (fun c w' hc q => (hs.2 c ?_).trans q) (fun _ q => q) fun _ _ q => q
    rintro rfl
    rcases hc with rfl | hc
    · rw [hfree] at e; cases e
    · rw [hfree] at hc; cases hc
  rcases hx with hk | hk
  · refine wpAny_storeName_local hk hn (fun h' hn' hs => ?_) hcls
    obtain ⟨oL, _, _, hoL, _⟩ := id hn
    refine h _ ⟨I.ok, I.os, I.bare, ⟨fun b o e n hb hx => ?_, fun b o e n hb hx => ?_, I.base.free, fun b o e hx => ?_, I.base.tups, I.base.frzs, I.base.tbls⟩, ⟨_, hn', fun j y v' e1 e2 e3 => ?_⟩, fun y c e => ?_, I.free, I.freeC, fun p hp => ?_, tracked ⟨oL, hoL, I.free⟩ hs, by simpa using I.len⟩ ⟨_, hs, .inl rfl⟩
    · exact (hs.2 b (Nat.ne_of_lt (Nat.lt_of_lt_of_le (Heap.lt_size e) I.ok.above))).trans (I.base.keep b o e n hb hx)
    · obtain ⟨sl, e1⟩ := I.base.slot b o e n hb hx
      exact ⟨sl, (hs.2 b (Nat.ne_of_lt (Nat.lt_of_lt_of_le (Heap.lt_size e) I.ok.above))).trans e1⟩
    · obtain ⟨o', e1⟩ := I.base.there b o e hx
      exact ⟨o', (hs.2 b (Nat.ne_of_lt (Nat.lt_of_lt_of_le (Heap.lt_size e) I.ok.above))).trans e1⟩
    · by_cases hj : j = i
      · subst hj
        rw [hi] at e1; cases e1
        rw [List.getElem?_set_self hiσ] at e2
        cases e2
        exact ⟨u, r, .inl ⟨hk, by simp⟩⟩
      · rw [List.getElem?_set_ne (Ne.symm hj)] at e2
        obtain ⟨u', r', q⟩ := hl j y v' e1 e2 e3
        refine ⟨u', r', ?_⟩
        rcases q with ⟨k, e⟩ | ⟨k, c, e, z⟩
        · refine .inl ⟨k, ?_⟩
          have : y ≠ x := fun e => hj (nodup_ix hN e1 (e ▸ hi))
          simp [this, e]
        · exact .inr ⟨k, c, e, z.sameBut hs (cne y c e)⟩
    · obtain ⟨w', z⟩ := I.cell y c e
      exact ⟨w', z.sameBut hs (cne y c e)⟩
    · obtain ⟨e, n, ne, nf, d⟩ := I.pin p hp
      exact ⟨(hs.2 p.1 ne).trans e, n, ne, nf, d⟩
  · have hfn : X.fn x = true := by
      rcases hf with z | z
      · exact z
      · rw [z] at hk; cases hk
    obtain ⟨c, hc⟩ := I.ok.has x (.inl hk)
    obtain ⟨w', z⟩ := I.cell x c hc
    refine wpAny_storeName_cell I.ok.kind hk hc z (fun h' hc' hs => ?_)
    obtain ⟨oc, hoc, hocd⟩ := id z
    refine h { s with heap := h' } ⟨I.ok, I.os, I.bare, ⟨fun b o e n hb hx => ?_, fun b o e n hb hx => ?_, I.base.free, fun b o e hx => ?_, I.base.tups, I.base.frzs, I.base.tbls⟩, ⟨m, hn.sameBut hs (Ne.symm (cne x c hc)), fun j y v' e1 e2 e3 => ?_⟩, fun y c' e => ?_, I.free, I.freeC, fun p hp => ?_, tracked ⟨oc, hoc, I.freeC x c hc⟩ hs, by simpa using I.len⟩ ⟨c, hs, .inr hc⟩
    · exact (hs.2 b (Nat.ne_of_lt (Nat.lt_of_lt_of_le (Heap.lt_size e) (I.ok.cab x c hfn hc)))).trans (I.base.keep b o e n hb hx)
    · obtain ⟨sl, e1⟩ := I.base.slot b o e n hb hx
      exact ⟨sl, (hs.2 b (Nat.ne_of_lt (Nat.lt_of_lt_of_le (Heap.lt_size e) (I.ok.cab x c hfn hc)))).trans e1⟩
    · obtain ⟨o', e1⟩ := I.base.there b o e hx
      exact ⟨o', (hs.2 b (Nat.ne_of_lt (Nat.lt_of_lt_of_le (Heap.lt_size e) (I.ok.cab x c hfn hc)))).trans e1⟩
    · by_cases hj : j = i
      · subst hj
        rw [hi] at e1; cases e1
        rw [List.getElem?_set_self hiσ] at e2
        cases e2
        exact ⟨u, r, .inr ⟨.inl hk, c, hc, hc'⟩⟩
      · rw [List.getElem?_set_ne (Ne.symm hj)] at e2
        obtain ⟨u', r', q⟩ := hl j y v' e1 e2 e3
        refine ⟨u', r', ?_⟩
        rcases q with q | ⟨k, c', e, z'⟩
        · exact .inl q
        · refine .inr ⟨k, c', e, z'.sameBut hs ?_⟩
          rintro rfl
          exact hj (nodup_ix hN e1 (I.ok.inj _ _ _ e hc ▸ hi))
    · by_cases hcc : c' = c
      · subst hcc; exact ⟨_, hc'⟩
      · obtain ⟨w2, z2⟩ := I.cell y c' e
        exact ⟨w2, z2.sameBut hs hcc⟩
    · obtain ⟨e, n, ne, nf, d⟩ := I.pin p hp
      refine ⟨(hs.2 p.1 ?_).trans e, n, ne, nf, d⟩
      intro q
      rw [q, hoc] at e
      have q' : oc = p.2 := Option.some.inj e
      exact d w' (by rw [← q']; exact hocd)
theorem store_ok {M : Model} {A : Around} {E : Value → Shared → Prop} {i : Nat} {x : Str} {v : V} {u : Value} {Q : Unit → Shared → Prop} (I : Inv X pins σ H s) (hN : X.N.Nodup) (hi : X.N[i]? = some x) (hx : Loc X.env.scope x) (r : RelV v u)
    (h : ∀ s', Inv X pins (σ.set i (some v)) H s' → Q () s') (hf : X.fn x = true ∨ X.env.scope.names.lookup x = some .local := by first | exact .inl rfl | exact .inr rfl | assumption) : wpAny M A (storeName X.env x u) Q E s :=
  store_ok2 I hN hi hx r (fun s' I' _ => h s' I') hf
/-- behind a call or a block, the state as it is -/
theorem Inv.call' {s' : Shared} {ch : List Addr} (I : Inv X pins σ H s) (ho : s'.os = s.os) (u : Un (frs X.stack) ch H H' s.heap s'.heap) (hok : HOk X.prog X.w H' s'.heap) (hg : AllBare s'.gens)
    (hch : ∀ b ∈ ch, (b ∈ X.ex ∨ X.s₀.heap.objs.size ≤ b) ∧ b ≠ X.env.locals ∧ (∀ x c, X.env.cells.lookup x = some c → c ≠ b) ∧ ∀ p ∈ X.pn ++ pins, p.1 ≠ b) : Inv X pins σ H' s' := by
  obtain ⟨h', g', d', t', o'⟩ := s'
  have e : o' = s.os := ho
  subst e
  exact I.call (g' := g') (t' := t') (d' := d') u hok hg hch
end

/-! ### the judgements -/
/-- an exception: its class, its own dict's address (where it has one), the abstract heap behind it -/
abbrev XK := Value → Option Addr → Hp → Prop
abbrev St := List (Option V)
abbrev VK := V → Hp → Prop
/-- an expression's reading; a test's; an argument list's -/
abbrev TE := St → Hp → VK → Prop
abbrev TT := St → Hp → (Bool → Hp → Prop) → Prop
abbrev TA := St → Hp → (List V → Hp → Prop) → Prop
/-- what is wanted behind a statement -/
structure Ends where
  nx : St → Hp → Prop
  rt : VK
  bk : St → Hp → Prop := fun _ _ => False
  ct : St → Hp → Prop := fun _ _ => False
abbrev TS := Ends → St → Hp → Prop

def EP (X : Cx) (pins : List (Addr × Obj)) (σ : St) (Q : VK) (u : Value) (s' : Shared) : Prop := ∃ v H', Inv X pins σ H' s' ∧ RelV v u ∧ Q v H'
def TP (X : Cx) (pins : List (Addr × Obj)) (σ : St) (Q : Bool → Hp → Prop) (b : Bool) (s' : Shared) : Prop := ∃ H', Inv X pins σ H' s' ∧ Q b H'
def AP (X : Cx) (pins : List (Addr × Obj)) (σ : St) (Q : List V → Hp → Prop) (us : List Value) (s' : Shared) : Prop := ∃ vs H', Inv X pins σ H' s' ∧ Vals vs us ∧ Q vs H'
def SP (X : Cx) (pins : List (Addr × Obj)) (D : Ends) (f : Flow) (s' : Shared) : Prop :=
  match f with
  | .next => ∃ σ' H', Inv X pins σ' H' s' ∧ D.nx σ' H'
  | .brk => ∃ σ' H', Inv X pins σ' H' s' ∧ D.bk σ' H'
  | .cont => ∃ σ' H', Inv X pins σ' H' s' ∧ D.ct σ' H'
  | .ret u => ∃ v σ' H', Inv X pins σ' H' s' ∧ RelV v u ∧ D.rt v H'

def PE (X : Cx) (e : Expr) (t : TE) : Prop :=
  ∀ (pins : List (Addr × Obj)) (s : Shared) (σ : St) (H : Hp) (Q : VK), Inv X pins σ H s → t σ H Q → wpAny (model X.prog X.w) X.A (eval e X.env) (EP X pins σ Q) X.xe s
def PT (X : Cx) (e : Expr) (t : TT) : Prop :=
  ∀ (pins : List (Addr × Obj)) (s : Shared) (σ : St) (H : Hp) (Q : Bool → Hp → Prop), Inv X pins σ H s → t σ H Q → wpAny (model X.prog X.w) X.A (isTrue e X.env (eval e X.env)) (TP X pins σ Q) X.xe s
/-- a test whatever its 'whole' is (and, or) -/
def PW (X : Cx) (e : Expr) (t : TT) : Prop :=
  ∀ (whole : Sem Value) (pins : List (Addr × Obj)) (s : Shared) (σ : St) (H : Hp) (Q : Bool → Hp → Prop), Inv X pins σ H s → t σ H Q → wpAny (model X.prog X.w) X.A (isTrue e X.env whole) (TP X pins σ Q) X.xe s
theorem PW.pt {X : Cx} {e : Expr} {t : TT} (h : PW X e t) : PT X e t := h _
/-- an argument list (no star), from the left -/
def PA (X : Cx) (es : List Expr) (t : TA) : Prop :=
  ∀ (pos : Pos) (pins : List (Addr × Obj)) (s : Shared) (σ : St) (H : Hp) (Q : List V → Hp → Prop), Inv X pins σ H s → t σ H Q → wpAny (model X.prog X.w) X.A (spliced (backTo pos (starEach es X.env))) (AP X pins σ Q) X.xe s
def PS (X : Cx) (st : Stmt) (t : TS) : Prop :=
  ∀ (pins : List (Addr × Obj)) (s : Shared) (σ : St) (H : Hp) (D : Ends), Inv X pins σ H s → t D σ H → wpAny (model X.prog X.w) X.A (exec st X.env) (SP X pins D) X.xe s
def PSs (X : Cx) (st : List Stmt) (t : TS) : Prop :=
  ∀ (pins : List (Addr × Obj)) (s : Shared) (σ : St) (H : Hp) (D : Ends), Inv X pins σ H s → t D σ H → wpAny (model X.prog X.w) X.A (execs st X.env) (SP X pins D) X.xe s
/-- weaken the end -/
theorem thn {α : Type} {t : Sem α} {Q Q' : α → Shared → Prop} {M : Model} {A : Around} {E : Value → Shared → Prop} {s : Shared} (h : wpAny M A t Q E s) (hQ : ∀ a s, Q a s → Q' a s) : wpAny M A t Q' E s := wpAny_mono h hQ fun _ _ x => x
end L2

namespace L2
open PySem PySem.Spec PyProof.Rows
section
variable {X : Cx}

/-! ### names and constants -/
def tVar (i : Nat) : TE := fun σ H Q => ∃ v, σ[i]? = some (some v) ∧ Q v H
def tC (v : V) : TE := fun _ H Q => Q v H
theorem pe_var {i : Nat} {x : Str} {pos : Pos} (hN : X.N[i]? = some x) (hv : Vis X.env.scope x) (hd : (x == ("__debug__" : Str)) = false := by decide) (hcd : (x == ("__classdict__" : Str)) = false := by decide) : PE X (.Name x pos) (tVar i) := by
  intro pins s σ H Q I h
  obtain ⟨v, e, h⟩ := h
  obtain ⟨m, hn, hl⟩ := I.loc
  obtain ⟨u, r, l⟩ := hl i x v hN e hv
  have fin : EP X pins σ Q u s := ⟨v, H, I, r, h⟩
  rcases l with ⟨hk, hm⟩ | ⟨hk, c, hc, hcell⟩
  · exact wpAny_Name (wpAny_loadName_local I.ok.kind hk hn hm fin) hd
  · rcases hk with hk | hk
    · exact wpAny_Name (wpAny_loadName_cell I.ok.kind hk hc hcell fin) hd
    · exact wpAny_Name (wpAny_loadName_free I.ok.kind hk hc hcell fin hcd) hd
theorem pe_int {i j pos} : PE X (.Constant (.int i) j pos) (tC (.int i)) := fun _ _ _ H _ I h => wpAny_Constant_int ⟨.int i, H, I.tok _, ⟨_, rfl⟩, h⟩
theorem pe_bl {b j pos} : PE X (.Constant (.bool b) j pos) (tC (.bl b)) := fun _ _ _ H _ I h => Constant_bool ⟨.bl b, H, I, rfl, h⟩
theorem pe_str {x j pos} : PE X (.Constant (.str x) j pos) (tC (.str x)) := fun _ _ _ H _ I h => Calls.Constant_str ⟨.str x, H, I.tok _, ⟨_, rfl⟩, h⟩

/-- a global name of the def -/
def Gl (X : Cx) (x : Str) : Prop := X.env.kindOf x = some .globalImplicit
theorem ld_glob {E : Value → Shared → Prop} {pins : List (Addr × Obj)} {s : Shared} {σ : St} {H : Hp} {x : Str} {u : Value} {pos : Pos} {Q : Value → Shared → Prop} (I : Inv X pins σ H s) (hg : Gl X x) (hm : X.mg x = some u) (h : Q u s)
    (hd : (x == ("__debug__" : Str)) = false := by decide) : wpAny (model X.prog X.w) X.A (eval (.Name x pos) X.env) Q E s :=
  Calls.Name_function_global I.ok.kind hg (Calls.loadGlobal_global (by rw [I.ok.glob]; exact I.mod.glob.keeps I.bk) hm h) hd
theorem ld_blt {E : Value → Shared → Prop} {pins : List (Addr × Obj)} {s : Shared} {σ : St} {H : Hp} {x : Str} {u : Value} {pos : Pos} {Q : Value → Shared → Prop} (I : Inv X pins σ H s) (hg : Gl X x) (hm : X.mg x = none) (hv : bootBuiltins x = some u) (h : Q u s)
    (hn : x ≠ "__name__" := by decide) (hd : (x == ("__debug__" : Str)) = false := by decide) : wpAny (model X.prog X.w) X.A (eval (.Name x pos) X.env) Q E s := by
  obtain ⟨mb, h1, h2⟩ := I.mod.blt
  exact Calls.Name_function_global I.ok.kind hg (Calls.loadGlobal_builtin (by rw [I.ok.glob]; exact I.mod.glob.keeps I.bk) hm (by rw [I.ok.blt]; exact h1.keeps I.bk) ((h2 x hn).trans hv) h) hd
/-- a module's constant, a class, a function, as a value -/
theorem pe_glob {x : Str} {v : V} {u : Value} {pos : Pos} (hg : Gl X x) (hm : X.mg x = some u) (r : RelV v u) (hd : (x == ("__debug__" : Str)) = false := by decide) : PE X (.Name x pos) (tC v) :=
  fun _ _ _ H _ I h => ld_glob I hg hm ⟨v, H, I, r, h⟩ hd
theorem pe_bltn {x : Str} {v : V} {u : Value} {pos : Pos} (hg : Gl X x) (hm : X.mg x = none) (hv : bootBuiltins x = some u) (r : RelV v u) (hn : x ≠ "__name__" := by decide) (hd : (x == ("__debug__" : Str)) = false := by decide) : PE X (.Name x pos) (tC v) :=
  fun _ _ _ H _ I h => ld_blt I hg hm hv ⟨v, H, I, r, h⟩ hn hd

/-! ### arithmetic -/
/-- two ints -/
def t2I (ta tb : TE) (k : Int → Int → Hp → Prop) : St → Hp → Prop := fun σ H => ta σ H fun x H1 => tb σ H1 fun y H2 => ∃ i j, x = .int i ∧ y = .int j ∧ k i j H2
def tAdd (ta tb : TE) : TE := fun σ H Q => t2I ta tb (fun i j H2 => Q (.int (i + j)) H2) σ H
def tSub (ta tb : TE) : TE := fun σ H Q => t2I ta tb (fun i j H2 => Q (.int (i - j)) H2) σ H
/-- the left factor below 2^64 -/
def tMul (ta tb : TE) : TE := fun σ H Q => t2I ta tb (fun i j H2 => (-(2 ^ 64) < i ∧ i < 2 ^ 64) ∧ Q (.int (i * j)) H2) σ H
variable {a b : Expr} {ta tb : TE} {pos : Pos}
/-! ### comparisons -/
def PC (X : Cx) (op : CmpOp) (a b : Expr) (t : TE) : Prop :=
  ∀ (pins : List (Addr × Obj)) (s : Shared) (σ : St) (H : Hp) (Q : VK), Inv X pins σ H s → t σ H Q →
    wpAny (model X.prog X.w) X.A (eval a X.env) (fun v s₁ => wpAny (model X.prog X.w) X.A (eval b X.env) (fun u s₂ => wpAny (model X.prog X.w) X.A (compareOp op v u) (EP X pins σ Q) X.xe s₂) X.xe s₁) X.xe s
def tCmp (p : Int → Int → Bool) (ta tb : TE) : TE := fun σ H Q => t2I ta tb (fun i j H2 => Q (.bl (p i j)) H2) σ H
abbrev tLt : TE → TE → TE := tCmp fun i j => decide (i < j)
abbrev tLe : TE → TE → TE := tCmp fun i j => decide (i ≤ j)
abbrev tGt : TE → TE → TE := tCmp fun i j => decide (j < i)
abbrev tGe : TE → TE → TE := tCmp fun i j => decide (j ≤ i)
abbrev tEqI : TE → TE → TE := tCmp fun i j => decide (i = j)
abbrev tNeI : TE → TE → TE := tCmp fun i j => !decide (i = j)
/-- is None -/
def tIsN (ta : TE) : TE := fun σ H Q => ta σ H fun x H1 => Q (.bl (decide (x = .non))) H1
def tNotN (ta : TE) : TE := fun σ H Q => ta σ H fun x H1 => Q (.bl (!decide (x = .non))) H1
/-- a comparison as a value, as a test -/
def tB (t : TE) : TT := fun σ H Q => t σ H fun x H1 => ∃ c, x = .bl c ∧ Q c H1
/-- an expression whose value is a bool, as a test -/
theorem pt_val {e : Expr} {t : TE} (h : PE X e t) (he : ∀ whole, isTrue e X.env whole = (do let v ← whole; standAt e.pos; holding [v] (truthy v)) := by intro _; rfl) : PT X e (tB t) := by
  intro pins s σ H Q I hw
  refine isTrue_plain (thn (h pins s σ H _ I hw) fun v s1 ⟨x, H1, I1, r1, q1⟩ => ?_) (he _)
  obtain ⟨d, rfl, q⟩ := q1
  cases r1
  exact wpAny_truthy_bool ⟨H1, I1, q⟩

/-! ### and, or, not -/
variable {tA tB' : TT} {rest : List Expr}
def tAnd (t u : TT) : TT := fun σ H Q => t σ H fun c H1 => if c = true then u σ H1 Q else Q false H1
def tOr (t u : TT) : TT := fun σ H Q => t σ H fun c H1 => if c = true then Q true H1 else u σ H1 Q
def tNot (t : TT) : TT := fun σ H Q => t σ H fun c H1 => Q (!c) H1
theorem pw_or1 (ha : PT X a tA) : PW X (.BoolOp .Or [a] pos) tA := by
  intro wh pins s σ H Q I h
  refine isTrue_or (thn (ha pins s σ H Q I h) fun c s1 e => ?_)
  cases c with
  | false => exact isTrue_or_nil e
  | true => exact e
theorem pw_or (ha : PT X a tA) (hb : PW X (.BoolOp .Or (b :: rest) pos) tB') : PW X (.BoolOp .Or (a :: b :: rest) pos) (tOr tA tB') := by
  intro wh pins s σ H Q I h
  refine isTrue_or (thn (ha pins s σ H _ I h) fun c s1 ⟨H1, I1, q1⟩ => ?_)
  cases c with
  | true => exact ⟨H1, I1, q1⟩
  | false => exact hb wh pins s1 σ H1 Q I1 q1
theorem pt_not (ha : PT X a tA) : PT X (.UnaryOp .Not a pos) (tNot tA) := by
  intro pins s σ H Q I h
  exact isTrue_not (ha pins s σ H (fun c H1 => Q (!c) H1) I h)
/-- .. as values (bools) -/
def tAndV (ta tb : TE) : TE := fun σ H Q => ta σ H fun x H1 => ∃ c, x = .bl c ∧ if c = true then tb σ H1 Q else Q (.bl false) H1
def tOrV (ta tb : TE) : TE := fun σ H Q => ta σ H fun x H1 => ∃ c, x = .bl c ∧ if c = true then Q (.bl true) H1 else tb σ H1 Q
def tNotV (ta : TE) : TE := fun σ H Q => ta σ H fun x H1 => ∃ c, x = .bl c ∧ Q (.bl (!c)) H1
theorem pe_one {op} {t : TE} (h : PE X a t) : PE X (.BoolOp op [a] pos) t := fun pins s σ H Q I hw => BoolOp_one (h pins s σ H Q I hw)
theorem pe_or (ha : PE X a ta) (hb : PE X (.BoolOp .Or (b :: rest) pos) tb) : PE X (.BoolOp .Or (a :: b :: rest) pos) (tOrV ta tb) := by
  intro pins s σ H Q I h
  refine BoolOp_or (thn (ha pins s σ H _ I h) fun v s1 ⟨x, H1, I1, r1, q1⟩ => ?_)
  obtain ⟨c, rfl, q1⟩ := q1
  cases r1
  refine wpAny_truthy_bool ?_
  cases c with
  | false => exact hb pins s1 σ H1 Q I1 q1
  | true => exact ⟨.bl true, H1, I1, rfl, q1⟩
/-- a if t else b -/
def tIf (t : TT) (ta tb : TE) : TE := fun σ H Q => t σ H fun c H1 => if c = true then ta σ H1 Q else tb σ H1 Q
theorem pe_ifExp {c : Expr} (hc : PT X c tA) (ha : PE X a ta) (hb : PE X b tb) : PE X (.IfExp c a b pos) (tIf tA ta tb) := by
  intro pins s σ H Q I h
  refine wpAny_IfExp (thn (hc pins s σ H _ I h) fun d s1 ⟨H1, I1, q1⟩ => ?_)
  cases d with
  | true => exact ha pins s1 σ H1 Q I1 q1
  | false => exact hb pins s1 σ H1 Q I1 q1
end
end L2

namespace L2
open PySem PySem.Spec PyProof.Rows

/-! ### a list, a tuple that is read: tracked, frozen, or an object of the module -/
def SqL (K : PySem.W.Frag) (H : Hp) (a : Addr) (xs : List V) : Prop :=
  Rd H a (.lst xs) ∨
    ∃ (o : Obj) (its : Array Value) (n : Nat), K.lookup a = some o ∧ o.cls = .type "list" ∧ o.dict = none ∧ o.data = .seq its n ∧ its.size ≤ sizeLine ∧ Vals xs its.toList
def SqT (K : PySem.W.Frag) (H : Hp) (a : Addr) (xs : List V) : Prop :=
  Rd H a (.tup xs) ∨
    ∃ (o : Obj) (its : Array Value) (n : Nat), K.lookup a = some o ∧ o.cls = .type "tuple" ∧ o.data = .seq its n ∧ its.size ≤ sizeLine ∧ Vals xs its.toList
def absV : Value → Option V
  | .none => some .non
  | .bool b => some (.bl b)
  | .int i _ => some (.int i)
  | .str x _ => some (.str x)
  | .bytes b _ => some (.byt b)
  | .float b _ => some (.flt b)
  | .ref a => some (.ref a)
  | .type n => some (.ty n)
  | _ => none
theorem RelV.abs {x : V} {u : Value} (r : RelV x u) : absV u = some x := by
  cases x with
  | non => cases r; rfl
  | bl _ => cases r; rfl
  | int _ => obtain ⟨t, rfl⟩ := r; rfl
  | str _ => obtain ⟨t, rfl⟩ := r; rfl
  | byt _ => obtain ⟨t, rfl⟩ := r; rfl
  | flt _ => obtain ⟨t, rfl⟩ := r; rfl
  | ref _ => cases r; rfl
  | ty _ => cases r; rfl
theorem RelV.inj {x y : V} {u : Value} (r : RelV x u) (q : RelV y u) : x = y := Option.some.inj (r.abs.symm.trans q.abs)
theorem Vals.inj : ∀ {xs ys : List V} {us : List Value}, Vals xs us → Vals ys us → xs = ys
  | _, _, _, .nil, .nil => rfl
  | _, _, _, .cons r t, .cons r' t' => by rw [r.inj r', Vals.inj t t']
section
variable {X : Cx} {pins : List (Addr × Obj)} {σ : St} {H : Hp} {s : Shared} {a : Addr} {xs ys : List V}
theorem SqL.of {K : PySem.W.Frag} (h : H a = some (.lst xs)) : SqL K H a xs := .inl (.inl h)
theorem SqT.of {K : PySem.W.Frag} (h : H a = some (.tup xs)) : SqT K H a xs := .inl (.inl h)
theorem Inv.list (I : Inv X pins σ H s) (h : SqL X.K H a xs) : ∃ its : List Value, Vals xs its ∧ PlainL s.heap a its.toArray ∧ xs.length ≤ sizeLine := by
  rcases h with h | ⟨o, its, n, hk, hc, hd, hs, hz, r⟩
  · obtain ⟨z, its, n, r, e⟩ := h.ok I.hok
    exact ⟨its, r, ⟨_, n, e, rfl, rfl, rfl⟩, z⟩
  · refine ⟨its.toList, r, ⟨o, n, I.kIn a o hk, hc, hd, by simpa using hs⟩, ?_⟩
    have e := r.length
    simp only [Array.length_toList] at e
    omega
theorem Inv.tuple (I : Inv X pins σ H s) (h : SqT X.K H a xs) : ∃ its : List Value, Vals xs its ∧ IsTup s.heap a its.toArray ∧ xs.length ≤ sizeLine := by
  rcases h with h | ⟨o, its, n, hk, hc, hs, hz, r⟩
  · obtain ⟨z, its, r, p⟩ := h.ok I.hok
    exact ⟨its, r, p, z⟩
  · refine ⟨its.toList, r, ⟨o, I.kIn a o hk, hc, n, by simpa using hs⟩, ?_⟩
    have e := r.length
    simp only [Array.length_toList] at e
    omega
theorem Inv.list_inj (I : Inv X pins σ H s) (h : SqL X.K H a xs) (h' : SqL X.K H a ys) : xs = ys := by
  obtain ⟨its, r, ⟨o, n, e, _, _, d⟩, _⟩ := I.list h
  obtain ⟨its', r', ⟨o', n', e', _, _, d'⟩, _⟩ := I.list h'
  rw [e] at e'; cases e'
  rw [d] at d'
  injection d' with d1 _
  have : its = its' := by simpa using congrArg Array.toList d1
  subst this
  exact r.inj r'
end

/-! ### another wish about exceptions -/
abbrev Cx.wish (X : Cx) (E : Value → Shared → Prop) : Cx := { X with xe := E }
/-- no exception leaves -/
abbrev Cx.nox (X : Cx) : Cx := X.wish fun _ _ => False
theorem Cx.Ok.wish {X : Cx} (ok : X.Ok) (E : Value → Shared → Prop) : (X.wish E).Ok :=
  ⟨ok.mod, ok.kind, ok.glob, ok.blt, ok.above, ok.inj, ok.has, ok.cab, ok.hd, ok.frames, ok.stk, ok.exf, ok.bs, ok.bsz, ok.noex, ok.exfs, ok.funs, ok.frf⟩
theorem Cx.Ok.unwish {X : Cx} {E : Value → Shared → Prop} (ok : (X.wish E).Ok) : X.Ok :=
  ⟨ok.mod, ok.kind, ok.glob, ok.blt, ok.above, ok.inj, ok.has, ok.cab, ok.hd, ok.frames, ok.stk, ok.exf, ok.bs, ok.bsz, ok.noex, ok.exfs, ok.funs, ok.frf⟩
section
variable {X : Cx} {pins : List (Addr × Obj)} {σ : St} {H : Hp} {s : Shared} {E : Value → Shared → Prop}
theorem Inv.wish (I : Inv X pins σ H s) (E : Value → Shared → Prop) : Inv (X.wish E) pins σ H s := ⟨I.ok.wish E, I.os, I.bare, I.base, I.loc, I.cell, I.free, I.freeC, I.pin, I.hok, I.len⟩
theorem Inv.unwish (I : Inv (X.wish E) pins σ H s) : Inv X pins σ H s := ⟨I.ok.unwish, I.os, I.bare, I.base, I.loc, I.cell, I.free, I.freeC, I.pin, I.hok, I.len⟩
theorem SP.unwish {D : Ends} {f : Flow} {s' : Shared} (h : SP (X.wish E) pins D f s') : SP X pins D f s' := by
  cases f with
  | next => obtain ⟨σ', H', I, q⟩ := h; exact ⟨σ', H', I.unwish, q⟩
  | brk => obtain ⟨σ', H', I, q⟩ := h; exact ⟨σ', H', I.unwish, q⟩
  | cont => obtain ⟨σ', H', I, q⟩ := h; exact ⟨σ', H', I.unwish, q⟩
  | ret u => obtain ⟨v, σ', H', I, r, q⟩ := h; exact ⟨v, σ', H', I.unwish, r, q⟩
theorem PSs.nox {st : List Stmt} {t : TS} (h : PSs X.nox st t) : PSs X st t := fun pins s σ H D I hw =>
  wpAny_mono (h pins s σ H D (I.wish _) hw) (fun _ _ q => q.unwish) fun _ _ z => False.elim z
end

/-! ### blocks and small statements -/
section
variable {X : Cx} {st : Stmt} {rest : List Stmt} {t u : TS} {e : Expr} {te : TE} {pos : Pos}
def tNext : TS := fun D σ H => D.nx σ H
def tSeq (t u : TS) : TS := fun D σ H => t { D with nx := u D } σ H
theorem pss_nil : PSs X [] tNext := fun _ _ σ H _ I h => wpAny_execs_nil ⟨σ, H, I, h⟩
theorem pss_cons (h1 : PS X st t) (h2 : PSs X rest u) : PSs X (st :: rest) (tSeq t u) := by
  intro pins s σ H D I h
  refine wpAny_execs_cons (thn (h1 pins s σ H { D with nx := u D } I h) fun f s1 q => ?_)
  cases f with
  | next =>
    obtain ⟨σ', H', I', q⟩ := q
    exact h2 pins s1 σ' H' D I' q
  | ret v => exact q
  | brk => exact q
  | cont => exact q
theorem pss_one (h1 : PS X st t) : PSs X [st] t := by
  intro pins s σ H D I h
  refine wpAny_execs_cons (thn (h1 pins s σ H D I h) fun f s1 q => ?_)
  cases f with
  | next => exact wpAny_execs_nil q
  | ret v => exact q
  | brk => exact q
  | cont => exact q
def tBreak : TS := fun D σ H => D.bk σ H
def tCont : TS := fun D σ H => D.ct σ H
/-- in a def's body nothing is shown -/
theorem Inv.quiet {pins : List (Addr × Obj)} {σ : St} {H : Hp} {s : Shared} (I : Inv X pins σ H s) : interactive X.env = false := by simp [interactive, I.ok.kind]
/-- an expression whose value is dropped -/
def tDrop (te : TE) : TS := fun D σ H => te σ H fun _ H1 => D.nx σ H1
theorem ps_expr (he : PE X e te) (hs : swapsWith e none pos.line X.env = pure false := by rfl) : PS X (.Expr e pos) (tDrop te) := by
  intro pins s σ H D I h
  exact wpAny_Expr_any (thn (he pins s σ H _ I h) fun v s1 ⟨x, H1, I1, r1, q1⟩ => ⟨σ, H1, I1, q1⟩) I.quiet hs
def tRet (te : TE) : TS := fun D σ H => te σ H D.rt
theorem ps_ret (he : PE X e te) : PS X (.Return (some e) pos) (tRet te) := by
  intro pins s σ H D I h
  exact wpAny_Return_some (thn (he pins s σ H _ I h) fun v s1 ⟨x, H1, I1, r1, q1⟩ => ⟨x, σ, H1, I1, r1, q1⟩)
def tRetN : TS := fun D _ H => D.rt .non H
def tIfS (c : TT) (t u : TS) : TS := fun D σ H => c σ H fun b H1 => if b = true then t D σ H1 else u D σ H1
theorem ps_if {c : Expr} {a b : List Stmt} {tc : TT} (hc : PT X c tc) (ha : PSs X a t) (hb : PSs X b u) : PS X (.If c a b pos) (tIfS tc t u) := by
  intro pins s σ H D I h
  refine wpAny_If (thn (hc pins s σ H _ I h) fun d s1 ⟨H1, I1, q1⟩ => ?_)
  cases d with
  | true => exact ha pins s1 σ H1 D I1 q1
  | false => exact hb pins s1 σ H1 D I1 q1
/-- code that the proof never comes to -/
def tNever : TS := fun _ _ _ => False
theorem pss_never {sts : List Stmt} : PSs X sts tNever := fun _ _ _ _ _ _ h => h.elim
end

/-! ### targets -/
abbrev TG := V → St → Hp → (St → Hp → Prop) → Prop
abbrev TGs := List V → St → Hp → (St → Hp → Prop) → Prop
def PG (X : Cx) (target : Expr) (t : TG) : Prop :=
  ∀ (pins : List (Addr × Obj)) (s : Shared) (σ : St) (H : Hp) (v : V) (u : Value) (Q : St → Hp → Prop), Inv X pins σ H s → RelV v u → t v σ H Q →
    wpAny (model X.prog X.w) X.A (assign target X.env u) (fun _ s' => ∃ σ' H', Inv X pins σ' H' s' ∧ Q σ' H') X.xe s
/-- several targets, one after another -/
def PGs (X : Cx) (ts : List Expr) (t : TGs) : Prop :=
  ∀ (pins : List (Addr × Obj)) (s : Shared) (σ : St) (H : Hp) (vs : List V) (us : List Value) (Q : St → Hp → Prop), Inv X pins σ H s → Vals vs us → t vs σ H Q →
    wpAny (model X.prog X.w) X.A (assignInOrder ((assignEach ts X.env).map (·.2)) us) (fun _ s' => ∃ σ' H', Inv X pins σ' H' s' ∧ Q σ' H') X.xe s
/-- o[i] = v, by values -/
abbrev TSet := V → V → V → Hp → (Hp → Prop) → Prop
def PSet (X : Cx) (t : TSet) : Prop :=
  ∀ (pins : List (Addr × Obj)) (s : Shared) (σ : St) (H : Hp) (o i v : V) (ov iv u : Value) (Q : Hp → Prop), Inv X pins σ H s → RelV o ov → RelV i iv → RelV v u → t o i v H Q →
    wpAny (model X.prog X.w) X.A (setItem ov iv u) (fun _ s' => ∃ H', Inv X pins σ H' s' ∧ Q H') X.xe s
/-- a op= b, by values -/
abbrev TIp := V → V → Hp → VK → Prop
def PIp (X : Cx) (op : Operator) (t : TIp) : Prop :=
  ∀ (pins : List (Addr × Obj)) (s : Shared) (σ : St) (H : Hp) (x y : V) (v u : Value) (Q : VK), Inv X pins σ H s → RelV x v → RelV y u → t x y H Q →
    wpAny (model X.prog X.w) X.A (inplaceOp op v u) (EP X pins σ Q) X.xe s
section
variable {X : Cx} {pos : Pos}
def gName (i : Nat) : TG := fun v σ H Q => Q (σ.set i (some v)) H
theorem pg_name {i : Nat} {x : Str} (hN : X.N.Nodup) (hi : X.N[i]? = some x) (hx : Loc X.env.scope x) (hf : X.fn x = true ∨ X.env.scope.names.lookup x = some .local := by first | exact .inl rfl | exact .inr rfl | assumption) : PG X (.Name x pos) (gName i) := by
  intro pins s σ H v u Q I r h
  exact wpAny_assign_Name (store_ok I hN hi hx r (fun s' I' => ⟨_, H, I', h⟩) hf)
def gNil : TGs := fun vs σ H Q => vs = [] ∧ Q σ H
def gCons (t : TG) (u : TGs) : TGs := fun vs σ H Q => ∃ v r, vs = v :: r ∧ t v σ H fun σ' H' => u r σ' H' Q
theorem pgs_nil : PGs X [] gNil := by
  intro pins s σ H vs us Q I r h
  obtain ⟨e, h⟩ := h
  subst e
  cases r
  exact assignInOrder_nil ⟨σ, H, I, h⟩
theorem pgs_cons {e : Expr} {es : List Expr} {t : TG} {u : TGs} (h1 : PG X e t) (h2 : PGs X es u)
    (hs : (assignEach (e :: es) X.env).map (·.2) = assign e X.env :: (assignEach es X.env).map (·.2) := by rfl) : PGs X (e :: es) (gCons t u) := by
  intro pins s σ H vs us Q I r h
  obtain ⟨v, vr, e1, h⟩ := h
  subst e1
  cases r with
  | cons r rr =>
    rw [hs]
    refine assignInOrder_cons (thn (h1 pins s σ H _ _ _ I r h) fun _ s1 ⟨σ1, H1, I1, q1⟩ => ?_)
    exact h2 pins s1 σ1 H1 _ _ Q I1 rr q1
/-- (a, b, ..) = a tuple of that length -/
def gTup (K : PySem.W.Frag) (n : Nat) (t : TGs) : TG := fun v σ H Q => ∃ a xs, v = .ref a ∧ SqT K H a xs ∧ xs.length = n ∧ t xs σ H Q
theorem pg_tup {es : List Expr} {k : Nat} {t : TGs} {n : Nat} (hc : X.calm = true) (h : PGs X es t)
    (hn : (assignEach es X.env).length = n := by rfl) (hst : (assignEach es X.env).findIdx? (·.1) = none := by rfl) : PG X (.Tuple es k pos) (gTup X.K n t) := by
  intro pins s σ H v u Q I r hw
  obtain ⟨a, xs, e1, hq, hl, hw⟩ := hw
  subst e1
  cases r
  obtain ⟨its, rv, ht, hz⟩ := I.tuple hq
  refine assign_Tuple_tuple (I.ok.hd hc) ht (by simp [hn, ← hl, rv.length]) hst fun h' hx => ?_
  have I1 : Inv X pins σ H { s with heap := h' } := I.kept (t' := s.toks) fun b o e => hx b o (Nat.ne_of_lt (Heap.lt_size e)) e
  exact h pins _ σ H xs _ Q I1 (by simpa using rv) hw
/-- o[i] = .. -/
def gSub (to ti : TE) (t : TSet) : TG := fun v σ H Q => to σ H fun o H1 => ti σ H1 fun i H2 => t o i v H2 fun H3 => Q σ H3
/-- target = value -/
def tAsg (te : TE) (g : TG) : TS := fun D σ H => te σ H fun x H1 => g x σ H1 D.nx
/-- name = value -/
theorem ps_set {i : Nat} {x : Str} {e : Expr} {te : TE} {pos' : Pos} (hN : X.N.Nodup) (hi : X.N[i]? = some x) (hx : Loc X.env.scope x) (he : PE X e te) (hs : swapsWith e (some (.Name x pos')) pos.line X.env = pure false := by rfl) (hf : X.fn x = true ∨ X.env.scope.names.lookup x = some .local := by first | exact .inl rfl | exact .inr rfl | assumption) :
    PS X (.Assign [.Name x pos'] e pos) (tAsg te (gName i)) := by
  intro pins s σ H D I h
  refine wpAny_Assign_Name (thn (he pins s σ H _ I h) fun v s1 ⟨y, H1, I1, r1, q1⟩ => ?_) hs
  exact store_ok I1 hN hi hx r1 (fun s2 I2 => ⟨_, H1, I2, q1⟩) hf
/-- a, b = x, y with plain local names: stored from the right; the pair itself is not tracked (the opening rows as in PyProof/Rows/TupAssign.lean:23) -/
def tPar (i j : Nat) (ta : TA) : TS := fun D σ H => ta σ H fun vs H1 => ∃ v w, vs = [v, w] ∧ D.nx ((σ.set i (some v)).set j (some w)) H1
/-- name op= e -/
def tAug (i : Nat) (te : TE) (ti : TIp) : TS := fun D σ H => ∃ x, σ[i]? = some (some x) ∧ te σ H fun y H1 => ti x y H1 fun z H2 => D.nx (σ.set i (some z)) H2
theorem ps_aug {i : Nat} {x : Str} {e : Expr} {te : TE} {op : Operator} {ti : TIp} {pos' : Pos} (hN : X.N.Nodup) (hi : X.N[i]? = some x) (hx : Loc X.env.scope x) (he : PE X e te) (ho : PIp X op ti) (hf : X.fn x = true ∨ X.env.scope.names.lookup x = some .local := by first | exact .inl rfl | exact .inr rfl | assumption) :
    PS X (.AugAssign (.Name x pos') op e pos) (tAug i te ti) := by
  intro pins s σ H D I h
  obtain ⟨v, e1, h⟩ := h
  obtain ⟨m, hn, hl⟩ := I.loc
  have vis : Vis X.env.scope x := by rcases hx with k | k; exact .inl k; exact .inr (.inl k)
  obtain ⟨u, r, l⟩ := hl i x v hi e1 vis
  refine wpAny_AugAssign_Name ?_
  have go : wpAny (model X.prog X.w) X.A (eval e X.env) (fun w s₂ => wpAny (model X.prog X.w) X.A (inplaceOp op u w) (fun r s₃ => wpAny (model X.prog X.w) X.A (storeName X.env x r) (fun _ => SP X pins D .next) X.xe s₃) X.xe s₂) X.xe s := by
    refine thn (he pins s σ H _ I h) fun w s1 ⟨y, H1, I1, r1, q1⟩ => ?_
    refine thn (ho pins s1 σ H1 v y u w _ I1 r r1 q1) fun z s2 ⟨zv, H2, I2, r2, q2⟩ => ?_
    exact store_ok I2 hN hi hx r2 (fun s3 I3 => ⟨_, H2, I3, q2⟩) hf
  rcases l with ⟨hk, hm⟩ | ⟨hk, c, hc, hcell⟩
  · exact wpAny_loadName_local I.ok.kind hk hn hm go
  · rcases hk with hk | hk
    · exact wpAny_loadName_cell I.ok.kind hk hc hcell go
    · rcases hx with k | k
      · have : X.env.scope.names.lookup x = some .free := hk
        rw [k] at this; cases this
      · have : X.env.scope.names.lookup x = some .free := hk
        rw [k] at this; cases this
/-- o[i] op= e -/
def tAugS (to ti te : TE) (tget : V → V → Hp → VK → Prop) (tip : TIp) (tset : TSet) : TS := fun D σ H => to σ H fun o H1 => ti σ H1 fun i H2 => tget o i H2 fun x H3 => te σ H3 fun y H4 => tip x y H4 fun z H5 => tset o i z H5 fun H6 => D.nx σ H6
/-- o[i], by values -/
def PGet (X : Cx) (t : V → V → Hp → VK → Prop) : Prop :=
  ∀ (pins : List (Addr × Obj)) (s : Shared) (σ : St) (H : Hp) (o i : V) (ov iv : Value) (Q : VK), Inv X pins σ H s → RelV o ov → RelV i iv → t o i H Q →
    wpAny (model X.prog X.w) X.A (getItem ov iv) (EP X pins σ Q) X.xe s
/-- ints -/
def ipI (f : Int → Int → Int) : TIp := fun x y H Q => ∃ i j, x = .int i ∧ y = .int j ∧ Q (.int (f i j)) H
theorem ip_add : PIp X .Add (ipI fun i j => i + j) := by
  intro pins s σ H x y v u Q I r1 r2 h
  obtain ⟨i, j, e1, e2, q⟩ := h
  subst e1; subst e2
  obtain ⟨t, rfl⟩ := r1
  obtain ⟨t', rfl⟩ := r2
  exact iadd_int ⟨.int _, H, I.tok _, ⟨_, rfl⟩, q⟩
end

/-! ### while -/
section
variable {X : Cx} {pos : Pos}
/-- the invariant W with its measure -/
def tWhile (c : TT) (tb : TS) : TS := fun D σ H => ∃ W : Nat → St → Hp → Prop, (∃ m, W m σ H) ∧ ∀ m σ H, W m σ H →
  c σ H fun b H1 => if b = true then ∃ N : St → Hp → Prop, (∀ σ' H', N σ' H' → ∃ m', m' < m ∧ W m' σ' H') ∧ tb { D with nx := N, ct := N, bk := D.nx } σ H1 else D.nx σ H1
theorem ps_while {c : Expr} {body : List Stmt} {tc : TT} {tb : TS} (hp : PassesOwn (model X.prog X.w) X.A X.env X.xe) (hc : PT X c tc) (hb : PSs X body tb) : PS X (.While c body [] pos) (tWhile tc tb) := by
  intro pins s σ H D I h
  obtain ⟨W, ⟨m0, w0⟩, turn⟩ := h
  refine wpAny_While (codeAny_whileLoop (fun n s' => ∃ σ' H', Inv X pins σ' H' s' ∧ W n σ' H') ?_ m0 ⟨σ, H, I, w0⟩)
  rintro n s1 ⟨σ1, H1, I1, w1⟩
  refine wpAny_passesOwn hp (thn (hc pins s1 σ1 H1 _ I1 (turn n σ1 H1 w1)) fun b s2 ⟨H2, I2, q2⟩ => ?_)
  cases b with
  | true =>
    obtain ⟨N, hN, q2⟩ := q2
    rw [if_pos rfl]
    refine wpAny_passesOwn hp (thn (hb pins s2 σ1 H2 _ I2 q2) fun f s3 q3 => ?_)
    cases f with
    | next =>
      obtain ⟨σ3, H3, I3, n3⟩ := q3
      obtain ⟨m', hm, w3⟩ := hN σ3 H3 n3
      exact ⟨m', hm, σ3, H3, I3, w3⟩
    | cont =>
      obtain ⟨σ3, H3, I3, n3⟩ := q3
      obtain ⟨m', hm, w3⟩ := hN σ3 H3 n3
      exact ⟨m', hm, σ3, H3, I3, w3⟩
    | brk => exact q3
    | ret v => exact q3
  | false =>
    rw [if_neg Bool.false_ne_true]
    exact wpAny_execs_nil ⟨σ1, H2, I2, q2⟩
end

/-! ### what a loop or a comprehension walks -/
/-- at turn i: it yields x (the heap may grow), or it stops -/
structure It where
  go : Nat → Hp → Prop
  yld : Nat → Hp → V → Hp → Prop
  stop : Nat → Hp → Prop
/-- the iterator's own objects may turn: they are not the frame's, not pinned, younger than the entry (or a comprehension's own) -/
def FpOk (X : Cx) (pins : List (Addr × Obj)) (H : Hp) (b : Addr) : Prop :=
  H b = none ∧ b ≠ X.env.locals ∧ b ∉ X.fs ∧ (b ∈ X.ex ∨ X.s₀.heap.objs.size ≤ b) ∧ (∀ x c, X.env.cells.lookup x = some c → c ≠ b) ∧ ∀ p ∈ X.pn ++ pins, p.1 ≠ b
theorem Inv.fpOk {X : Cx} {pins : List (Addr × Obj)} {σ : St} {H H' : Hp} {s : Shared} {b : Addr} (I : Inv X pins σ H s) (hb : s.heap.objs.size ≤ b) (hn : H' b = none) : FpOk X pins H' b := by
  refine ⟨hn, Nat.ne_of_gt (Nat.lt_of_lt_of_le I.lt hb), I.nofs hb, .inr (Nat.le_trans I.sz hb), fun x c e z => ?_, fun p hp z => ?_⟩
  · obtain ⟨v, q⟩ := I.cell x c e
    exact absurd (Nat.lt_of_lt_of_le q.lt (by rw [z]; exact hb)) (Nat.lt_irrefl _)
  · exact absurd (Nat.lt_of_lt_of_le (Heap.lt_size (I.pin p hp).1) (by rw [z]; exact hb)) (Nat.lt_irrefl _)
structure Turn (P : Program) (w : World) (K : PySem.W.Frag) (tg : Expr) (J : It) (fp : List Addr) (it : Addr) (tn : Nat → Heap → Prop) : Prop where
  mem : it ∈ fp
  obj : ∀ i h, tn i h → ∀ b ∈ fp, ∃ o, h.get? b = some o ∧ ∀ v, o.data ≠ .cell v
  keep : ∀ i h h', tn i h → (∀ b ∈ fp, ∀ o, h.get? b = some o → h'.get? b = some o) → tn i h'
  item : ∀ (X : Cx), X.prog = P → X.w = w → X.K = K → X.calm = true → ∀ (i : Nat) (pins : List (Addr × Obj)) (s : Shared) (σ : St) (H : Hp) (E : Value → Shared → Prop), Inv X pins σ H s → (∀ b ∈ fp, FpOk X pins H b) → tn i s.heap → J.go i H →
    wpAny (model P w) X.A (pyNext (.ref it)) (fun r s1 => ∃ u, r = some u ∧
      wpAny (model P w) X.A (letOwnedTupleGo tg (.ref it) u) (fun _ s2 => ∃ x H', Inv X pins σ H' s2 ∧ RelV x u ∧ J.yld i H x H' ∧ tn (i + 1) s2.heap ∧ ∀ b ∈ fp, H' b = none) E s1) E s
  done : ∀ (X : Cx), X.prog = P → X.w = w → X.K = K → X.calm = true → ∀ (i : Nat) (pins : List (Addr × Obj)) (s : Shared) (σ : St) (H : Hp) (E : Value → Shared → Prop), Inv X pins σ H s → (∀ b ∈ fp, FpOk X pins H b) → tn i s.heap → J.stop i H →
    wpAny (model P w) X.A (pyNext (.ref it)) (fun r s1 => r = none ∧ Inv X pins σ H s1) E s
  self : ∀ (A : Around) (i : Nat) (s : Shared) (Q : Value → Shared → Prop) (E : Value → Shared → Prop), tn i s.heap → Q (.ref it) s → wpAny (model P w) A (pyIter (.ref it)) Q E s
abbrev TI := St → Hp → (It → Hp → Prop) → Prop
/-- an iterator has come -/
def PIE (X : Cx) (pins : List (Addr × Obj)) (σ : St) (tg : Expr) (R : It → Hp → Prop) (itv : Value) (s2 : Shared) : Prop :=
  ∃ (it : Addr) (fp : List Addr) (tn : Nat → Heap → Prop) (J : It) (H' : Hp), itv = .ref it ∧ Inv X pins σ H' s2 ∧ Turn X.prog X.w X.K tg J fp it tn ∧ tn 0 s2.heap ∧ (∀ b ∈ fp, FpOk X pins H' b) ∧ R J H'
def PI (X : Cx) (tg iter : Expr) (wi : TI) : Prop :=
  ∀ (pins : List (Addr × Obj)) (s : Shared) (σ : St) (H : Hp) (R : It → Hp → Prop), Inv X pins σ H s → wi σ H R →
    wpAny (model X.prog X.w) X.A (eval iter X.env) (fun v s1 => wpAny (model X.prog X.w) X.A (pyIter v) (PIE X pins σ tg R) X.xe s1) X.xe s

/-- the step ahead of the store is nothing for an iterator that keeps no tuple -/
theorem go_of {M : Model} {A : Around} {E : Value → Shared → Prop} {s : Shared} {tg : Expr} {it : Addr} {u : Value} {o : Obj} {n : String} {vs : Array Value} {Q : Unit → Shared → Prop} (ho : s.heap.get? it = some o) (hc : o.cls = .type n) (hd : o.data = .fields vs)
    (hn : ["enumerate", "zip", "dict_itemiterator", "dict_reverseitemiterator", "odict_iterator", "itertools.zip_longest", "itertools.pairwise"].contains n = false) (hQ : Q () s) : wpAny M A (letOwnedTupleGo tg (.ref it) u) Q E s := by
  unfold letOwnedTupleGo
  cases tg <;> first
    | exact wpAny_pure hQ
    | (cases u <;> first
        | exact wpAny_pure hQ
        | (refine wpAny_bind (wpAny_load ho ?_)
           rw [hc, hd]
           show wpAny M A (if (["enumerate", "zip", "dict_itemiterator", "dict_reverseitemiterator", "odict_iterator", "itertools.zip_longest", "itertools.pairwise"].contains n && vs[0]? == some (rawInt _)) = true then _ else _) Q E s
           rw [if_neg (by intro h; rw [hn, Bool.false_and] at h; cases h)]
           exact wpAny_pure hQ))

/-- the list at a, as it stands at each turn (a loop may append to it) -/
def Itl (K : PySem.W.Frag) (a : Addr) : It :=
  ⟨fun i H => ∃ xs x, SqL K H a xs ∧ xs[i]? = some x, fun i H x H' => H' = H ∧ ∀ xs, SqL K H a xs → xs[i]? = some x, fun i H => ∃ xs, SqL K H a xs ∧ xs.length ≤ i⟩
def Itt (K : PySem.W.Frag) (a : Addr) : It :=
  ⟨fun i H => ∃ xs x, SqT K H a xs ∧ xs[i]? = some x, fun i H x H' => H' = H ∧ ∀ xs, SqT K H a xs → xs[i]? = some x, fun i H => ∃ xs, SqT K H a xs ∧ xs.length ≤ i⟩
/-- lo, lo + 1, .. (n of them) -/
def Itr (lo : Int) (n : Nat) : It := ⟨fun i _ => i < n, fun i H x H' => H' = H ∧ x = .int (lo + i), fun i _ => n ≤ i⟩
theorem turn_list {P : Program} {w : World} {K : PySem.W.Frag} {tg : Expr} (a it : Addr) : Turn P w K tg (Itl K a) [it] it (fun i h => h.IsListIter it a i) where
  mem := by simp
  obj := fun i h st b hb => by
    have e : b = it := by simpa using hb
    subst e
    obtain ⟨o, e, c, d⟩ := st
    exact ⟨o, e, fun v z => by rw [d] at z; cases z⟩
  keep := fun i h h' st k => st.at fun o e => k it (by simp) o e
  item := by
    intro X hP hw hK hc i pins s σ H E I hf st hg
    subst hP hw hK
    obtain ⟨xs, x, hq, hx⟩ := hg
    obtain ⟨its, rv, p, hz⟩ := I.list hq
    obtain ⟨u, hu, ru⟩ := rv.get hx
    obtain ⟨f0, f1, f2, f3, f4, f5⟩ := hf it (by simp)
    refine wpAny_pyNext_list_item st p.isList (x := u) (by simpa using hu) fun h' st' sb => ?_
    have I1 : Inv X pins σ H { s with heap := h' } := I.turned (t' := s.toks) (fun b o hb e => (sb.2 b hb).trans e) f0 f1 f3 f4 f5
    obtain ⟨o, e, c, d⟩ := id st'
    exact ⟨u, rfl, go_of (s := { s with heap := h' }) e c d (by decide) ⟨x, H, I1, ru, ⟨rfl, fun ys hy => by rw [I.list_inj hy hq]; exact hx⟩, st', fun b hb => (hf b hb).1⟩⟩
  done := by
    intro X hP hw hK hc i pins s σ H E I hf st hg
    subst hP hw hK
    obtain ⟨xs, hq, hx⟩ := hg
    obtain ⟨its, rv, p, hz⟩ := I.list hq
    obtain ⟨f0, f1, f2, f3, f4, f5⟩ := hf it (by simp)
    have hl := rv.length
    exact wpAny_pyNext_list_end (I.ok.hd hc) st p.isList (by simp; omega) fun h' eb => ⟨rfl, I.turned (t' := s.toks) (fun b o hb e => eb b o hb e) f0 f1 f3 f4 f5⟩
  self := fun _ _ _ _ _ st h => wpAny_pyIter_listiter st h
theorem turn_range {P : Program} {w : World} {K : PySem.W.Frag} {tg : Expr} (it : Addr) (lo : Int) (n : Nat) : Turn P w K tg (Itr lo n) [it] it (fun i h => IsRangeIter h it (lo + (i : Nat) * 1) ((n : Int) - (i : Nat)) 1) where
  mem := by simp
  obj := fun i h st b hb => by
    have e : b = it := by simpa using hb
    subst e
    exact ⟨_, st, fun v z => by
      have z' : Data.fields _ = Data.cell v := z
      cases z'⟩
  keep := fun i h h' st k => k it (by simp) _ st
  item := by
    intro X hP hw hK hc i pins s σ H E I hf st hg
    subst hP hw hK
    obtain ⟨f0, f1, f2, f3, f4, f5⟩ := hf it (by simp)
    have W := Walks.range (prog := X.prog) (w := X.w) (I.ok.hd hc) it lo 1 n
    refine W.item i s _ _ hg st fun v h' tk hv st' kk => ?_
    obtain ⟨t, rfl⟩ := hv
    have I1 : Inv X pins σ H { s with heap := h', toks := tk } := I.turned (fun b o hb e => kk b o (by simpa using hb) e) f0 f1 f3 f4 f5
    refine ⟨_, rfl, go_of (s := { s with heap := h', toks := tk }) (n := "range_iterator") st' rfl rfl (by decide) ⟨.int (lo + i), H, I1, ⟨t, ?_⟩, ⟨rfl, rfl⟩, st', fun b hb => (hf b hb).1⟩⟩
    rw [Int.mul_one]
  done := by
    intro X hP hw hK hc i pins s σ H E I hf st hg
    subst hP hw hK
    obtain ⟨f0, f1, f2, f3, f4, f5⟩ := hf it (by simp)
    exact wpAny_pyNext_range_end (I.ok.hd hc) st (by have : n ≤ i := hg; omega) fun h' eb => ⟨rfl, I.turned (t' := s.toks) (fun b o hb e => eb b o hb e) f0 f1 f3 f4 f5⟩
  self := fun _ _ _ _ _ st h => wpAny_pyIter_rangeiter st h
end L2

namespace L2
open PySem PySem.Spec PyProof.Rows
section
variable {X : Cx} {tg : Expr}
def iList (K : PySem.W.Frag) (tl : TE) : TI := fun σ H R => tl σ H fun x H1 => ∃ a, x = .ref a ∧ (∃ xs, SqL K H1 a xs) ∧ R (Itl K a) H1
def iTup (K : PySem.W.Frag) (tl : TE) : TI := fun σ H R => tl σ H fun x H1 => ∃ a, x = .ref a ∧ (∃ xs, SqT K H1 a xs) ∧ R (Itt K a) H1
theorem pi_list {l : Expr} {tl : TE} (hl : PE X l tl) : PI X tg l (iList X.K tl) := by
  intro pins s σ H R I h
  refine thn (hl pins s σ H _ I h) fun v s1 ⟨x, H1, I1, r1, q1⟩ => ?_
  obtain ⟨a, e, ⟨xs, hq⟩, q⟩ := q1
  subst e
  cases r1
  obtain ⟨its, rv, p, hz⟩ := I1.list hq
  refine wpAny_pyIter_list p.isList ?_
  refine ⟨s1.heap.objs.size, [s1.heap.objs.size], _, _, H1, rfl, I1.kept (t' := s1.toks) fun b o e => Heap.get?_push_of_some _ e, turn_list a _, ⟨_, Heap.get?_push_size _ rfl, rfl, rfl⟩, fun b hb => ?_, q⟩
  have e : b = s1.heap.objs.size := by simpa using hb
  subst e
  exact I1.fpOk (Nat.le_refl _) (I1.hok.fresh (Nat.le_refl _))
/-- a range object just made, walked -/
theorem range_it {pins : List (Addr × Obj)} {σ : St} {H : Hp} {s : Shared} {R : It → Hp → Prop} {E : Value → Shared → Prop} {lo hi : Int} {t u v : Tok} {tk : Nat} (I : Inv X pins σ H s) (h1 : -(2 ^ 62) ≤ lo) (h2 : lo < 2 ^ 62) (h3 : -(2 ^ 62) ≤ hi) (h4 : hi < 2 ^ 62)
    (q : R (Itr lo (hi - lo).toNat) H) : wpAny (model X.prog X.w) X.A (pyIter (.ref s.heap.objs.size)) (PIE X pins σ tg R) E { s with heap := s.heap.push { cls := .type "range", data := .fields #[.int lo t, .int hi u, .int 1 v] }, toks := tk } := by
  refine wpAny_pyIter_range (IsRange.new ..) (small_one h1 h2 h3 h4) ?_
  have I1 : Inv X pins σ H { s with heap := s.heap.push { cls := .type "range", data := .fields #[.int lo t, .int hi u, .int 1 v] }, toks := tk } := I.kept fun b o e => Heap.get?_push_of_some _ e
  refine ⟨(s.heap.push { cls := .type "range", data := .fields #[.int lo t, .int hi u, .int 1 v] }).objs.size, [(s.heap.push { cls := .type "range", data := .fields #[.int lo t, .int hi u, .int 1 v] }).objs.size], _, _, H, rfl,
    I1.kept (t' := tk) fun b o e => Heap.get?_push_of_some _ e, turn_range _ lo (hi - lo).toNat, ?_, fun b hb => ?_, q⟩
  · have e1 : lo + ((0 : Nat) : Int) * 1 = lo := by simp
    have e2 : (((hi - lo).toNat : Nat) : Int) - ((0 : Nat) : Int) = Builtin.Range.rangeSize lo hi 1 := by rw [rangeSize_one]; split <;> omega
    show IsRangeIter _ _ (lo + ((0 : Nat) : Int) * 1) ((((hi - lo).toNat : Nat) : Int) - ((0 : Nat) : Int)) 1
    rw [e1, e2]
    exact Heap.get?_push_size _ rfl
  · have e : b = (s.heap.push { cls := .type "range", data := .fields #[.int lo t, .int hi u, .int 1 v] }).objs.size := by simpa using hb
    subst e
    exact I1.fpOk (Nat.le_refl _) (I1.hok.fresh (Nat.le_refl _))
def iRng1 (ta : TA) : TI := fun σ H R => ta σ H fun vs H1 => ∃ j : Int, vs = [.int j] ∧ -(2 ^ 62) ≤ j ∧ j < 2 ^ 62 ∧ R (Itr 0 j.toNat) H1
def iRng2 (ta : TA) : TI := fun σ H R => ta σ H fun vs H1 => ∃ i j : Int, vs = [.int i, .int j] ∧ (-(2 ^ 62) ≤ i ∧ i < 2 ^ 62 ∧ -(2 ^ 62) ≤ j ∧ j < 2 ^ 62) ∧ R (Itr i (j - i).toNat) H1
theorem pi_range1 {a : Expr} {ta : TA} {p pos : Pos} (hg : Gl X "range") (hm : X.mg "range" = none) (ha : PA X [a] ta) (hs : starEach [a] X.env = [(false, eval a X.env)] := by rfl) : PI X tg (.Call (.Name "range" p) [a] [] pos) (iRng1 ta) := by
  intro pins s σ H R I h
  refine Call_ (ld_blt I hg hm boot_range (PyProof.Rows.callWith_type1 (thn (ha pos pins s σ H _ I h) fun us s1 ⟨vs, H1, I1, r1, q1⟩ => ?_) hs rfl))
  obtain ⟨j, e, q1, q2, q⟩ := q1
  subst e
  cases r1 with
  | cons r rr =>
    cases rr
    obtain ⟨t, rfl⟩ := r
    exact call_range_1 (range_it I1 (by omega) (by omega) q1 q2 (by simpa using q))
/-! ### for -/
/-- W: the invariant by the turn and a measure; N: what the body is to reach -/
def tFor (wi : TI) (g : TG) (tb : TS) : TS := fun D σ H => wi σ H fun J H1 => ∃ W : Nat → Nat → St → Hp → Prop, (∃ m, W 0 m σ H1) ∧ ∀ i m σ H, W i m σ H →
  (J.stop i H ∧ D.nx σ H) ∨ (J.go i H ∧ ∃ N : St → Hp → Prop, (∀ σ' H', N σ' H' → ∃ m', m' < m ∧ W (i + 1) m' σ' H') ∧ ∀ x H', J.yld i H x H' → g x σ H' fun σ2 H2 => tb { D with nx := N, ct := N, bk := D.nx } σ2 H2)
/-- the records at fp as they stand -/
def pinsAt (fp : List Addr) (h : Heap) : List (Addr × Obj) := fp.filterMap fun b => (h.get? b).map fun o => (b, o)
theorem mem_pinsAt {fp : List Addr} {h : Heap} {b : Addr} {o : Obj} (hb : b ∈ fp) (e : h.get? b = some o) : (b, o) ∈ pinsAt fp h := List.mem_filterMap.mpr ⟨b, hb, by rw [e]; rfl⟩
theorem of_pinsAt {fp : List Addr} {h : Heap} {p : Addr × Obj} (hp : p ∈ pinsAt fp h) : p.1 ∈ fp ∧ h.get? p.1 = some p.2 := by
  obtain ⟨b, hb, e⟩ := List.mem_filterMap.mp hp
  cases q : h.get? b with
  | none => rw [q] at e; cases e
  | some o =>
    rw [q] at e
    have e' : (b, o) = p := Option.some.inj e
    subst e'
    exact ⟨hb, q⟩
theorem Inv.pinned {pins : List (Addr × Obj)} {σ : St} {H : Hp} {s : Shared} {fp : List Addr} (I : Inv X pins σ H s) (hf : ∀ b ∈ fp, FpOk X pins H b) (ho : ∀ b ∈ fp, ∃ o, s.heap.get? b = some o ∧ ∀ v, o.data ≠ .cell v) : Inv X (pins ++ pinsAt fp s.heap) σ H s :=
  I.pins_of fun p hp => (List.mem_append.mp hp).elim (fun z => I.pin p (List.mem_append_right _ z)) fun z => by
    obtain ⟨hb, e⟩ := of_pinsAt z
    obtain ⟨f0, f1, f2, _⟩ := hf p.1 hb
    obtain ⟨o, e', d⟩ := ho p.1 hb
    rw [e] at e'; cases e'
    exact ⟨e, f0, f1, f2, d⟩
theorem Inv.unpinned {pins pl : List (Addr × Obj)} {σ : St} {H : Hp} {s : Shared} (I : Inv X (pins ++ pl) σ H s) : Inv X pins σ H s := I.pins_of fun p hp => I.pin p (List.mem_append_right _ (List.mem_append_left _ hp))
theorem ps_for {iter : Expr} {body : List Stmt} {wi : TI} {g : TG} {tb : TS} {pos : Pos} (hp : PassesOwn (model X.prog X.w) X.A X.env X.xe) (hc : X.calm = true) (hi : PI X tg iter wi) (hg : PG X tg g) (hb : PSs X body tb)
    (hs : ∀ x, foldedSetIterable iter X.env x = pure x := by intro _; rfl) : PS X (.For tg iter body [] pos) (tFor wi g tb) := by
  intro pins s σ H D I h
  refine wpAny_For (thn (hi pins s σ H _ I h) fun v s1 h1 => thn h1 fun itv s2 h2 => ?_) hs
  obtain ⟨it, fp, tn, J, H2, e, I2, T, st2, f2, W, ⟨m0, w0⟩, turn⟩ := h2
  subst e
  -- what stays true of the iterator's objects through the loop
  have stat : ∀ {H' : Hp}, (∀ b ∈ fp, H' b = none) → ∀ b ∈ fp, FpOk X pins H' b := fun hn b hb => ⟨hn b hb, (f2 b hb).2⟩
  refine codeAny_forLoop_any (fun n s' => ∃ i σ' H', Inv X pins σ' H' s' ∧ tn i s'.heap ∧ (∀ b ∈ fp, H' b = none) ∧ W i n σ' H') ?_ m0 ⟨0, σ, H2, I2, st2, fun b hb => (f2 b hb).1, w0⟩
  rintro n s3 ⟨i, σ3, H3, I3, st3, fr3, w3⟩
  rcases turn i n σ3 H3 w3 with ⟨stop, qn⟩ | ⟨go, N, hN, step⟩
  · refine wpAny_passesOwn hp (thn (T.done X rfl rfl rfl hc i pins s3 σ3 H3 X.xe I3 (stat fr3) st3 stop) fun r s4 ⟨hr, I4⟩ => ?_)
    subst hr
    exact wpAny_execs_nil ⟨σ3, H3, I4, qn⟩
  · refine wpAny_passesOwn hp (thn (T.item X rfl rfl rfl hc i pins s3 σ3 H3 X.xe I3 (stat fr3) st3 go) fun r s4 ⟨u, hr, h4⟩ => ?_)
    subst hr
    refine wpAny_passesOwn hp (thn h4 fun _ s5 ⟨x, H5, I5, r5, y5, st5, fr5⟩ => ?_)
    have I5' := I5.pinned (stat fr5) (T.obj _ _ st5)
    refine wpAny_passesOwn hp (thn (hg _ s5 σ3 H5 x u _ I5' r5 (step x H5 y5)) fun _ s6 ⟨σ6, H6, I6, q6⟩ => ?_)
    refine wpAny_passesOwn hp (thn (hb _ s6 σ6 H6 _ I6 q6) fun f s7 q7 => ?_)
    have again : ∀ {σ7 : St} {H7 : Hp}, Inv X (pins ++ pinsAt fp s5.heap) σ7 H7 s7 → N σ7 H7 → ∃ m, m < n ∧ ∃ i σ' H', Inv X pins σ' H' s7 ∧ tn i s7.heap ∧ (∀ b ∈ fp, H' b = none) ∧ W i m σ' H' := fun {σ7 H7} I7 n7 => by
      obtain ⟨m', hm, w7⟩ := hN σ7 H7 n7
      refine ⟨m', hm, i + 1, σ7, H7, I7.unpinned, T.keep _ _ _ st5 fun b hb o e => (I7.pin (b, o) (List.mem_append_right _ (List.mem_append_right _ (mem_pinsAt hb e)))).1, fun b hb => ?_, w7⟩
      obtain ⟨o, e, d⟩ := T.obj _ _ st5 b hb
      exact (I7.pin (b, o) (List.mem_append_right _ (List.mem_append_right _ (mem_pinsAt hb e)))).2.1
    cases f with
    | next => obtain ⟨σ7, H7, I7, n7⟩ := q7; exact again I7 n7
    | cont => obtain ⟨σ7, H7, I7, n7⟩ := q7; exact again I7 n7
    | brk => obtain ⟨σ7, H7, I7, q7⟩ := q7; exact ⟨σ7, H7, I7.unpinned, q7⟩
    | ret v => obtain ⟨x7, σ7, H7, I7, r7, q7⟩ := q7; exact ⟨x7, σ7, H7, I7.unpinned, r7, q7⟩
end

/-! ### the forms one uses -/
/-- over a list that the body leaves as it is -/
theorem for_list {K : PySem.W.Frag} {a : Addr} {xs : List V} {g : TG} {tb : TS} {D : Ends} {σ : St} {H : Hp} (Pv : Nat → St → Hp → Prop) (h0 : Pv 0 σ H) (hl : ∀ i σ H, i ≤ xs.length → Pv i σ H → SqL K H a xs)
    (hs : ∀ i x σ H, xs[i]? = some x → Pv i σ H → g x σ H fun σ2 H2 => tb { D with nx := Pv (i + 1), ct := Pv (i + 1), bk := D.nx } σ2 H2) (hd : ∀ σ H, Pv xs.length σ H → D.nx σ H) :
    ∃ W : Nat → Nat → St → Hp → Prop, (∃ m, W 0 m σ H) ∧ ∀ i m σ H, W i m σ H →
      ((Itl K a).stop i H ∧ D.nx σ H) ∨ ((Itl K a).go i H ∧ ∃ N : St → Hp → Prop, (∀ σ' H', N σ' H' → ∃ m', m' < m ∧ W (i + 1) m' σ' H') ∧ ∀ x H', (Itl K a).yld i H x H' → g x σ H' fun σ2 H2 => tb { D with nx := N, ct := N, bk := D.nx } σ2 H2) := by
  refine ⟨fun i m σ H => m = xs.length - i ∧ i ≤ xs.length ∧ Pv i σ H, ⟨xs.length, by simp, Nat.zero_le _, h0⟩, ?_⟩
  rintro i m σ H ⟨rfl, hi, p⟩
  have q := hl i σ H hi p
  by_cases hlt : i < xs.length
  · refine .inr ⟨⟨xs, xs[i], q, by simp [hlt]⟩, Pv (i + 1), fun σ' H' p' => ⟨xs.length - (i + 1), by omega, rfl, hlt, p'⟩, fun x H' y => ?_⟩
    obtain ⟨e, y⟩ := y
    subst e
    exact hs i x σ _ (y xs q) p
  · have e : i = xs.length := by omega
    subst e
    exact .inl ⟨⟨xs, q, Nat.le_refl _⟩, hd σ H p⟩
end L2

namespace L2
open PySem PySem.Spec PyProof.Rows

abbrev R2 := V → V → Hp → VK → Prop
/-- a two-place operation on values: f is binaryOp op, inplaceOp op or compareOp op -/
def OpR (X : Cx) (f : Value → Value → Sem Value) (r : R2) : Prop :=
  ∀ (pins : List (Addr × Obj)) (s : Shared) (σ : St) (H : Hp) (x y : V) (v u : Value) (Q : VK), Inv X pins σ H s → RelV x v → RelV y u → r x y H Q →
    wpAny (model X.prog X.w) X.A (f v u) (EP X pins σ Q) X.xe s
/-- a one-place operation -/
def UnR (X : Cx) (f : Value → Sem Value) (r : V → Hp → VK → Prop) : Prop :=
  ∀ (pins : List (Addr × Obj)) (s : Shared) (σ : St) (H : Hp) (x : V) (v : Value) (Q : VK), Inv X pins σ H s → RelV x v → r x H Q →
    wpAny (model X.prog X.w) X.A (f v) (EP X pins σ Q) X.xe s
/-- a call of a value that is known (a builtin, a type) with values -/
def CallR (X : Cx) (f : Value) (r : List V → Hp → VK → Prop) : Prop :=
  ∀ (pins : List (Addr × Obj)) (s : Shared) (σ : St) (H : Hp) (xs : List V) (us : List Value) (Q : VK), Inv X pins σ H s → Vals xs us → r xs H Q →
    wpAny (model X.prog X.w) X.A (call f us) (EP X pins σ Q) X.xe s
/-- a value's truth -/
def TruR (X : Cx) (r : V → Hp → (Bool → Hp → Prop) → Prop) : Prop :=
  ∀ (pins : List (Addr × Obj)) (s : Shared) (σ : St) (H : Hp) (x : V) (v : Value) (Q : Bool → Hp → Prop), Inv X pins σ H s → RelV x v → r x H Q →
    wpAny (model X.prog X.w) X.A (truthy v) (TP X pins σ Q) X.xe s

def tOp (r : R2) (ta tb : TE) : TE := fun σ H Q => ta σ H fun x H1 => tb σ H1 fun y H2 => r x y H2 Q
def tUn (r : V → Hp → VK → Prop) (ta : TE) : TE := fun σ H Q => ta σ H fun x H1 => r x H1 Q
/-- ints in, under C, and a value out -/
def rI (C : Int → Int → Prop) (g : Int → Int → V) : R2 := fun x y H Q => ∃ i j, x = .int i ∧ y = .int j ∧ C i j ∧ Q (g i j) H
def rI0 (g : Int → Int → V) : R2 := fun x y H Q => ∃ i j, x = .int i ∧ y = .int j ∧ Q (g i j) H
def rU (g : Int → V) : V → Hp → VK → Prop := fun x H Q => ∃ i, x = .int i ∧ Q (g i) H

section
variable {X : Cx} {a b c : Expr} {ta tb tc : TE} {pos : Pos}

theorem binT (ha : PE X a ta) (hb : PE X b tb) {pins : List (Addr × Obj)} {s : Shared} {σ : St} {H : Hp} {R : V → V → Hp → Prop} (I : Inv X pins σ H s)
    (h : ta σ H fun x H1 => tb σ H1 fun y H2 => R x y H2) {Q : Value → Shared → Prop} {f : Value → Value → Sem Value}
    (hf : ∀ v u s2 x y H2, Inv X pins σ H2 s2 → RelV x v → RelV y u → R x y H2 → wpAny (model X.prog X.w) X.A (f v u) Q X.xe s2) :
    wpAny (model X.prog X.w) X.A (eval a X.env) (fun v s₁ => wpAny (model X.prog X.w) X.A (eval b X.env) (fun u s₂ => wpAny (model X.prog X.w) X.A (f v u) Q X.xe s₂) X.xe s₁) X.xe s := by
  refine thn (ha pins s σ H _ I h) fun v s1 ⟨x, H1, I1, r1, q1⟩ => ?_
  refine thn (hb pins s1 σ H1 _ I1 q1) fun u s2 ⟨y, H2, I2, r2, q2⟩ => ?_
  exact hf v u s2 x y H2 I2 r1 r2 q2

theorem pe_op {op : Operator} {r : R2} (ho : OpR X (binaryOp op) r) (ha : PE X a ta) (hb : PE X b tb) : PE X (.BinOp a op b pos) (tOp r ta tb) := by
  intro pins s σ H Q I h
  exact wpAny_BinOp (binT ha hb I h fun v u s2 x y H2 I2 rx ry q => ho pins s2 σ H2 x y v u Q I2 rx ry q)
theorem pe_un {op : UnaryOp} {r : V → Hp → VK → Prop} (ho : UnR X (unaryOp op) r) (ha : PE X a ta) : PE X (.UnaryOp op a pos) (tUn r ta) := by
  intro pins s σ H Q I h
  exact UnaryOp_ (thn (ha pins s σ H _ I h) fun v s1 ⟨x, H1, I1, r1, q1⟩ => ho pins s1 σ H1 x v Q I1 r1 q1)
/-! ### ints -/
theorem opI {f : Value → Value → Sem Value} {C : Int → Int → Prop} {g : Int → Int → Int}
    (rule : ∀ (i j : Int) (t u : Tok) (s : Shared) (Q : Value → Shared → Prop) (E : Value → Shared → Prop), C i j → Q (.int (g i j) s.toks) { s with toks := s.toks + 1 } → wpAny (model X.prog X.w) X.A (f (.int i t) (.int j u)) Q E s) :
    OpR X f (rI C fun i j => .int (g i j)) := by
  intro pins s σ H x y v u Q I rx ry h
  obtain ⟨i, j, rfl, rfl, hc, q⟩ := h
  obtain ⟨t, rfl⟩ := rx
  obtain ⟨t', rfl⟩ := ry
  exact rule i j t t' s _ _ hc ⟨.int (g i j), H, I.tok _, ⟨_, rfl⟩, q⟩
theorem opI0 {f : Value → Value → Sem Value} {g : Int → Int → Int}
    (rule : ∀ (i j : Int) (t u : Tok) (s : Shared) (Q : Value → Shared → Prop) (E : Value → Shared → Prop), Q (.int (g i j) s.toks) { s with toks := s.toks + 1 } → wpAny (model X.prog X.w) X.A (f (.int i t) (.int j u)) Q E s) :
    OpR X f (rI0 fun i j => .int (g i j)) := by
  intro pins s σ H x y v u Q I rx ry h
  obtain ⟨i, j, rfl, rfl, q⟩ := h
  obtain ⟨t, rfl⟩ := rx
  obtain ⟨t', rfl⟩ := ry
  exact rule i j t t' s _ _ ⟨.int (g i j), H, I.tok _, ⟨_, rfl⟩, q⟩
theorem opB0 {f : Value → Value → Sem Value} {g : Int → Int → Bool}
    (rule : ∀ (i j : Int) (t u : Tok) (s : Shared) (Q : Value → Shared → Prop) (E : Value → Shared → Prop), Q (.bool (g i j)) s → wpAny (model X.prog X.w) X.A (f (.int i t) (.int j u)) Q E s) :
    OpR X f (rI0 fun i j => .bl (g i j)) := by
  intro pins s σ H x y v u Q I rx ry h
  obtain ⟨i, j, rfl, rfl, q⟩ := h
  obtain ⟨t, rfl⟩ := rx
  obtain ⟨t', rfl⟩ := ry
  exact rule i j t t' s _ _ ⟨.bl (g i j), H, I, rfl, q⟩

def CDiv (i j : Int) : Prop := 0 < j ∧ j < 1073741824
def CDivN (i j : Int) : Prop := j ≠ 0 ∧ j.natAbs < 1073741824
def CPow (i j : Int) : Prop := 0 ≤ j ∧ j ≤ 1000000 ∧ i.natAbs < 2 ^ 64
def CMul (i j : Int) : Prop := (-(2 ^ 64) < i ∧ i < 2 ^ 64) ∨ (-(2 ^ 64) < j ∧ j < 2 ^ 64)
theorem CMul.ok {i j : Int} (h : CMul i j) : IntMulOk i j := by
  rcases h with ⟨h1, h2⟩ | ⟨h1, h2⟩
  · exact .of_left (intBits_le_64 h1 h2)
  · exact .of_right (intBits_le_64 h1 h2)
theorem op_add : OpR X (binaryOp .Add) (rI0 fun i j => .int (i + j)) := opI0 fun _ _ _ _ _ _ _ q => add_int q
theorem op_sub : OpR X (binaryOp .Sub) (rI0 fun i j => .int (i - j)) := opI0 fun _ _ _ _ _ _ _ q => sub_int q
theorem op_mul : OpR X (binaryOp .Mult) (rI CMul fun i j => .int (i * j)) := opI fun _ _ _ _ _ _ _ hc q => mul_int q hc.ok
/-- // by a positive divisor -/
theorem op_fdiv : OpR X (binaryOp .FloorDiv) (rI CDiv fun i j => .int (i / j)) := opI fun i j _ _ _ _ _ hc q => by
  have h1 : (0 : Int) < j := hc.1
  have h2 : j < 1073741824 := hc.2
  exact floordiv_int (by omega) (by rw [Int.fdiv_eq_ediv_of_nonneg i (by omega)]; exact q) (.inl (PyProof.noPylong_small (by omega)))
/-- % by a positive divisor of any size -/
theorem op_mod : OpR X (binaryOp .Mod) (rI (fun _ j => 0 < j) fun i j => .int (i % j)) := opI fun i j _ _ _ _ _ hc q => by
  have h1 : (0 : Int) < j := hc
  exact mod_int' (by omega) (by rw [Int.fmod_eq_emod_of_nonneg i (by omega)]; exact q)
theorem op_pow : OpR X (binaryOp .Pow) (rI CPow fun i j => .int (i ^ j.toNat)) := opI fun _ _ _ _ _ _ _ hc q => pow_int_small hc.1 hc.2.1 hc.2.2 q
theorem unI {f : Value → Sem Value} {g : Int → Int}
    (rule : ∀ (i : Int) (t : Tok) (s : Shared) (Q : Value → Shared → Prop) (E : Value → Shared → Prop), Q (.int (g i) s.toks) { s with toks := s.toks + 1 } → wpAny (model X.prog X.w) X.A (f (.int i t)) Q E s) :
    UnR X f (rU fun i => .int (g i)) := by
  intro pins s σ H x v Q I rx h
  obtain ⟨i, rfl, q⟩ := h
  obtain ⟨t, rfl⟩ := rx
  exact rule i t s _ _ ⟨.int (g i), H, I.tok _, ⟨_, rfl⟩, q⟩
theorem un_neg : UnR X (unaryOp .USub) (rU fun i => .int (-i)) := unI fun _ _ _ _ _ q => neg_int q
/-! ### bools among ints: n += (a < b) -/
end

/-! ### comparisons -/
/-- the scalars that == tells apart as data does -/
def scal : V → V → Bool
  | .non, .non => true | .non, .int _ => true | .int _, .non => true | .non, .bl _ => true | .bl _, .non => true | .non, .str _ => true | .str _, .non => true
  | .int _, .int _ => true | .bl _, .bl _ => true | .str _, .str _ => true | .byt _, .byt _ => true
  | .int _, .str _ => true | .str _, .int _ => true | .bl _, .str _ => true | .str _, .bl _ => true
  | _, _ => false
def rEq : R2 := fun x y H Q => scal x y = true ∧ Q (.bl (decide (x = y))) H
def rNe : R2 := fun x y H Q => scal x y = true ∧ Q (.bl (!decide (x = y))) H

theorem dec_int {i j : Int} : decide (V.int i = V.int j) = (i == j) := by
  rw [Bool.eq_iff_iff]
  simp
theorem dec_bl {i j : Bool} : decide (V.bl i = V.bl j) = (i == j) := by
  rw [Bool.eq_iff_iff]
  simp
theorem dec_str {i j : Str} : decide (V.str i = V.str j) = (i == j) := by
  rw [Bool.eq_iff_iff]
  simp
theorem dec_byt {i j : Array UInt8} : decide (V.byt i = V.byt j) = (i.toList == j.toList) := by
  rw [Bool.eq_iff_iff]
  cases i
  cases j
  simp

section
variable {X : Cx} {a b c : Expr} {ta tb tc : TE} {pos : Pos}
theorem fin_bl {pins : List (Addr × Obj)} {σ : St} {H : Hp} {s : Shared} {Q : VK} {k k' : Bool} (I : Inv X pins σ H s) (q : Q (.bl k) H) (e : k = k') : EP X pins σ Q (.bool k') s := by
  subst e
  exact ⟨.bl k, H, I, rfl, q⟩
theorem op_eq : OpR X (compareOp .Eq) rEq := by
  intro pins s σ H x y v u Q I rx ry h
  obtain ⟨hs, q⟩ := h
  cases x with
  | non =>
    cases rx
    cases y with
    | non => cases ry; exact PySem.EqNone.eq_none_none (fin_bl I q (by simp))
    | bl j => cases ry; exact PySem.EqNone.eq_none_bool (fin_bl I q (by simp))
    | int j => obtain ⟨t', rfl⟩ := ry; exact PySem.EqNone.eq_none_int (fin_bl I q (by simp))
    | str j => obtain ⟨t', rfl⟩ := ry; exact PySem.EqNone.eq_none_str (fin_bl I q (by simp))
    | _ => exact absurd (show false = true from hs) Bool.false_ne_true
  | bl i =>
    cases rx
    cases y with
    | non => cases ry; exact PySem.EqNone.eq_bool_none (fin_bl I q (by simp))
    | bl j => cases ry; exact eq_bool (fin_bl I q dec_bl)
    | str j => obtain ⟨t', rfl⟩ := ry; exact PySem.EqMixed.eq_bool_str (fin_bl I q (by simp))
    | _ => exact absurd (show false = true from hs) Bool.false_ne_true
  | int i =>
    obtain ⟨t, rfl⟩ := rx
    cases y with
    | non => cases ry; exact PySem.EqNone.eq_int_none (fin_bl I q (by simp))
    | int j => obtain ⟨t', rfl⟩ := ry; exact eq_int (fin_bl I q dec_int)
    | str j => obtain ⟨t', rfl⟩ := ry; exact PySem.EqMixed.eq_int_str (fin_bl I q (by simp))
    | _ => exact absurd (show false = true from hs) Bool.false_ne_true
  | str i =>
    obtain ⟨t, rfl⟩ := rx
    cases y with
    | non => cases ry; exact PySem.EqNone.eq_str_none (fin_bl I q (by simp))
    | bl j => cases ry; exact PySem.EqMixed.eq_str_bool (fin_bl I q (by simp))
    | int j => obtain ⟨t', rfl⟩ := ry; exact PySem.EqMixed.eq_str_int (fin_bl I q (by simp))
    | str j => obtain ⟨t', rfl⟩ := ry; exact eq_str (fin_bl I q dec_str)
    | _ => exact absurd (show false = true from hs) Bool.false_ne_true
  | byt i =>
    obtain ⟨t, rfl⟩ := rx
    cases y with
    | byt j => obtain ⟨t', rfl⟩ := ry; exact PySem.W.eq_bytes (fin_bl I q dec_byt)
    | _ => exact absurd (show false = true from hs) Bool.false_ne_true
  | _ => cases y <;> exact absurd (show false = true from hs) Bool.false_ne_true
theorem op_ne : OpR X (compareOp .NotEq) rNe := by
  intro pins s σ H x y v u Q I rx ry h
  obtain ⟨hs, q⟩ := h
  cases x with
  | non =>
    cases rx
    cases y with
    | non => cases ry; exact PySem.EqNone.ne_none_none (fin_bl I q (by simp))
    | bl j => cases ry; exact PySem.EqNone.ne_none_bool (fin_bl I q (by simp))
    | int j => obtain ⟨t', rfl⟩ := ry; exact PySem.EqNone.ne_none_int (fin_bl I q (by simp))
    | str j => obtain ⟨t', rfl⟩ := ry; exact PySem.EqNone.ne_none_str (fin_bl I q (by simp))
    | _ => exact absurd (show false = true from hs) Bool.false_ne_true
  | bl i =>
    cases rx
    cases y with
    | non => cases ry; exact PySem.EqNone.ne_bool_none (fin_bl I q (by simp))
    | bl j => cases ry; exact ne_bool (fin_bl I q (congrArg not dec_bl))
    | str j => obtain ⟨t', rfl⟩ := ry; exact PySem.EqMixed.ne_bool_str (fin_bl I q (by simp))
    | _ => exact absurd (show false = true from hs) Bool.false_ne_true
  | int i =>
    obtain ⟨t, rfl⟩ := rx
    cases y with
    | non => cases ry; exact PySem.EqNone.ne_int_none (fin_bl I q (by simp))
    | int j => obtain ⟨t', rfl⟩ := ry; exact ne_int (fin_bl I q (congrArg not dec_int))
    | str j => obtain ⟨t', rfl⟩ := ry; exact PySem.EqMixed.ne_int_str (fin_bl I q (by simp))
    | _ => exact absurd (show false = true from hs) Bool.false_ne_true
  | str i =>
    obtain ⟨t, rfl⟩ := rx
    cases y with
    | non => cases ry; exact PySem.EqNone.ne_str_none (fin_bl I q (by simp))
    | bl j => cases ry; exact PySem.EqMixed.ne_str_bool (fin_bl I q (by simp))
    | int j => obtain ⟨t', rfl⟩ := ry; exact PySem.EqMixed.ne_str_int (fin_bl I q (by simp))
    | str j => obtain ⟨t', rfl⟩ := ry; exact ne_str (fin_bl I q (congrArg not dec_str))
    | _ => exact absurd (show false = true from hs) Bool.false_ne_true
  | byt i =>
    obtain ⟨t, rfl⟩ := rx
    cases y with
    | byt j => obtain ⟨t', rfl⟩ := ry; exact PySem.W.ne_bytes (fin_bl I q (congrArg not dec_byt))
    | _ => exact absurd (show false = true from hs) Bool.false_ne_true
  | _ => cases y <;> exact absurd (show false = true from hs) Bool.false_ne_true

theorem op_lt : OpR X (compareOp .Lt) (rI0 fun i j => .bl (decide (i < j))) := opB0 fun _ _ _ _ _ _ _ q => lt_int q
theorem op_le : OpR X (compareOp .LtE) (rI0 fun i j => .bl (decide (i ≤ j))) := opB0 fun _ _ _ _ _ _ _ q => le_int q
theorem op_gt : OpR X (compareOp .Gt) (rI0 fun i j => .bl (decide (j < i))) := opB0 fun _ _ _ _ _ _ _ q => gt_int q
theorem op_ge : OpR X (compareOp .GtE) (rI0 fun i j => .bl (decide (j ≤ i))) := opB0 fun _ _ _ _ _ _ _ q => ge_int q
/-- is, is not of two objects that are tracked lists or instances -/
def isObj : HO → Bool
  | .lst _ => true
  | .ins _ _ _ => true
  | _ => false
theorem nomark (b : Expr) {op : CmpOp} (h : op ≠ .In := by decide) (h2 : op ≠ .NotIn := by decide) : behindInMarks op b = false := by
  have e1 : (op == CmpOp.In) = false := by cases op <;> first | rfl | exact absurd rfl h
  have e2 : (op == CmpOp.NotIn) = false := by cases op <;> first | rfl | exact absurd rfl h2
  cases b <;> simp [behindInMarks, e1, e2]
/-- a comparison as a value; hm: nomark b, or (for in, not in) by with_unfolding_all rfl -/
theorem pe_cmpR {op : CmpOp} {r : R2} (ho : OpR X (compareOp op) r) (ha : PE X a ta) (hb : PE X b tb) (hm : behindInMarks op b = false) : PE X (.Compare a [op] [b] pos) (tOp r ta tb) := by
  intro pins s σ H Q I h
  exact wpAny_Compare1 (binT ha hb I h fun v u s2 x y H2 I2 rx ry q => ho pins s2 σ H2 x y v u Q I2 rx ry q) hm
/-- a reading of a value as a test -/
def tTest (t : TE) : TT := fun σ H Q => t σ H fun x H' => ∃ k, x = .bl k ∧ Q k H'
theorem pt_cmpR {op : CmpOp} {r : R2} (ho : OpR X (compareOp op) r) (ha : PE X a ta) (hb : PE X b tb) (hm : behindInMarks op b = false) : PT X (.Compare a [op] [b] pos) (tTest (tOp r ta tb)) := by
  intro pins s σ H Q I h
  refine wpAny_isTrue_Compare1 (thn (ha pins s σ H _ I h) fun v s1 ⟨x, H1, I1, r1, q1⟩ => thn (hb pins s1 σ H1 _ I1 q1) fun u s2 ⟨y, H2, I2, r2, q2⟩ =>
    thn (ho pins s2 σ H2 x y v u _ I2 r1 r2 q2) fun c s3 ⟨z, H3, I3, r3, k, e, q3⟩ => ?_) hm
  subst e
  cases r3
  exact wpAny_truthy_bool ⟨H3, I3, q3⟩
/-- a op1 b op2 c -/
def tChain (r r' : R2) (ta tb tc : TE) : TE := fun σ H Q => ta σ H fun x H1 => tb σ H1 fun y H2 => r x y H2 fun z H3 => ∃ k, z = .bl k ∧
  (if k = true then tc σ H3 fun w' H4 => r' y w' H4 Q else Q (.bl false) H3)
/-! ### truth -/
/-- a value's truth by the abstract heap -/
def TruV (K : PySem.W.Frag) (x : V) (H : Hp) (k : Bool) : Prop :=
  match x with
  | .non => k = false
  | .bl b => k = b
  | .int i => k = (i != 0)
  | .str y => y.length ≤ sizeLine ∧ k = ((y.length : Int) != 0)
  | .byt y => y.size ≤ sizeLine ∧ k = ((y.size : Int) != 0)
  | .ref p => (∃ xs, SqL K H p xs ∧ k = !xs.isEmpty) ∨ (∃ xs, SqT K H p xs ∧ k = !xs.isEmpty) ∨ ∃ kvs, H p = some (.dK kvs) ∧ k = !kvs.isEmpty
  | _ => False
theorem line63 : (sizeLine : Nat) < 2 ^ 63 := by rw [sizeLine_eq]; decide
/-! ### strs and bytes -/
def PlainIxT (b : Expr) : Prop := ∀ o i, subscripted b false o i = operate [o, i] (getItem o i)
/-! ### scalar builtins, by CallR -/
theorem vals1 {x : V} {us : List Value} (r : Vals [x] us) : ∃ u, us = [u] ∧ RelV x u := by
  cases r with
  | cons r1 r2 => cases r2; exact ⟨_, rfl, r1⟩
theorem call_abs : CallR X (.builtin "abs") (fun xs H Q => ∃ i, xs = [.int i] ∧ Q (.int (if i < 0 then -i else i)) H) := by
  intro pins s σ H xs us Q I r h
  obtain ⟨i, rfl, q⟩ := h
  obtain ⟨u, rfl, t, rfl⟩ := vals1 r
  exact call_abs_int fun u tk => ⟨.int (if i < 0 then -i else i), H, I.tok _, ⟨_, rfl⟩, q⟩
/-- len of a str, a bytes, a list, a tuple -/
def LenV (K : PySem.W.Frag) (x : V) (H : Hp) (n : Nat) : Prop :=
  match x with
  | .str y => y.length ≤ sizeLine ∧ n = y.length
  | .byt y => y.size ≤ sizeLine ∧ n = y.size
  | .ref p => (∃ xs, SqL K H p xs ∧ n = xs.length) ∨ ∃ xs, SqT K H p xs ∧ n = xs.length
  | _ => False
end
end L2

namespace L2
open PySem PySem.Spec PyProof.Rows

/-! ### an instance, its attributes a map -/
structure ObjM (h : Heap) (x dx C : Addr) (mA : Str → Option Value) : Prop where
  obj : h.get? x = some (PySem.W.instObj C dx)
  ns : h.Ns1 dx mA
  ne : dx ≠ x

theorem lookIn_ns {h : Heap} {dx : Addr} {mA : Str → Option Value} (n : h.Ns1 dx mA) : ∃ od, h.get? dx = some od ∧ ∀ name, PySem.W.lookIn name od = some (mA name) := by
  obtain ⟨o, es, ep, ho, hd, hk, _, hm⟩ := n
  refine ⟨o, ho, fun name => ?_⟩
  have e := hm name
  unfold nsFind findBy at e
  rw [← Array.find?_toList] at e
  unfold PySem.W.lookIn
  rw [hd]
  dsimp only
  split
  · rename_i y q
    rw [q] at e
    exact congrArg some e
  · rename_i q
    rw [q] at e
    have a : es.toList.any (·.refKey) = false := by
      rw [List.any_eq_false]
      intro y hy
      obtain ⟨z, t, hkey⟩ := hk y (Array.mem_toList_iff.mp hy)
      simp [DictEntry.refKey, hkey]
    have a' : ¬ es.toList.any (·.refKey) = true := by rw [a]; exact Bool.false_ne_true
    rw [if_neg a']
    exact congrArg some e

theorem ObjM.look {h : Heap} {x dx C : Addr} {mA : Str → Option Value} (I : ObjM h x dx C mA) : ∃ od, PySem.W.InstAt h x (PySem.W.instObj C dx) C (some od) ∧ ∀ name, PySem.W.lookIn name od = some (mA name) :=
  let ⟨od, ho, hl⟩ := lookIn_ns I.ns
  ⟨od, ⟨I.obj, rfl, rfl, ho⟩, hl⟩

section
variable {prog : Program} {w : World} {A : Around} {E : Value → Shared → Prop} {s : Shared} {K : PySem.W.Frag} {x dx C f : Addr} {mA : Str → Option Value} {name : Str} {v : Value}

theorem get_map {expr : Bool} {Q : Value → Shared → Prop} (X : K.In s.heap) (I : ObjM s.heap x dx C mA) (hg : PySem.W.plainGet K C name = true) (hh : PySem.W.hasDictIn K C = true)
    (ha : PySem.W.findIn K (.ref C) name = some none) (hv : mA name = some v) (hv' : PySem.W.handedIn v = true) (h : Q v { s with toks := s.toks + 1 }) :
    wpAny (model prog w) A (getAttr (.ref x) name expr) Q E s := by
  obtain ⟨od, J, hl⟩ := I.look
  exact PySem.W.get_value X J (PySem.W.plainGet_of hg).1 (PySem.W.findObj_own hh ha rfl (by rw [hl, hv])) hv' h

theorem get_meth {pl : Sem Bool} {Q : Value × List Value → Shared → Prop} (X : K.In s.heap) (I : ObjM s.heap x dx C mA) (hg : PySem.W.plainGet K C name = true)
    (hf : PySem.W.findIn K (.ref C) name = some (some (.ref f))) (ht : PySem.W.isFn K (.ref f) = true) (hv : mA name = none) (h : Q (.ref f, [.ref x]) s) :
    wpAny (model prog w) A (getMethod (.ref x) name pl) Q E s := by
  obtain ⟨od, J, hl⟩ := I.look
  exact PySem.W.method_fn X J (PySem.W.plainGet_of hg).1 (PySem.W.plainGet_of hg).2 hf (beq_iff_eq.mp ht) (by show (PySem.W.lookIn name od).map (·.isSome) = some false; rw [hl, hv]; rfl) h

theorem set_map {ns : List Str} {Q : Unit → Shared → Prop} (X : K.In s.heap) (I : ObjM s.heap x dx C mA)
    (hs : PySem.W.findIn K (.ref C) "__setattr__" = some (some (.builtin "object.__setattr__"))) (hp : PySem.W.plainOver K C = true) (ht : PySem.W.takerIn K C name = some none) (hh : PySem.W.hasDictIn K C = true)
    (hw : PySem.Within mA ns) (hsz : ns.length ≤ sizeLine)
    (h : ∀ h', ObjM h' x dx C (fun y => if y = name then some v else mA y) → Heap.SameBut dx s.heap h' → Q () { s with heap := h', toks := s.toks + 2 }) :
    wpAny (model prog w) A (setAttr (.ref x) name v) Q E s := by
  obtain ⟨od, J, hl⟩ := I.look
  refine PySem.W.set_plain X J hs (PySem.W.osa_open (s := { s with toks := s.toks + 1 }) (r := none) X J hp ht fun b => ?_)
  obtain ⟨cd, hc, hd'⟩ := PySem.W.any_some hh
  have hx : s.heap.get? x = some ⟨.ref C, some dx, .plain, #[]⟩ := I.obj
  refine wpAny_bind (wpAny_pure (wpAny_bind (wpAny_bind (wpAny_loadPart hx (wpAny_bind (PySem.W.Looks.here (s := { s with toks := s.toks + 1 }) (PySem.W.looks_clsIn X hc) ?_))))))
  rw [hd']
  refine wpAny_pure (a := some dx) (wpAny_bind (wpAny_pure (wpAny_bind ?_)))
  refine wpAny_nsSet1 (s := { s with toks := s.toks + 1 }) I.ns fun h' hn2 hs2 => ?_
  obtain ⟨oD, esD, epD, hoD, hdD, hcD⟩ := hn2.count (PySem.Within.cons name v hw)
  refine wpAny_bind (wpAny_lookBehind hoD (by rw [hdD]; exact pastItsLine_dict (Nat.le_trans hcD (by rw [List.length_cons]; omega))) ?_)
  exact wpAny_pure (h _ ⟨(hs2.2 _ (Ne.symm I.ne)).trans I.obj, hn2, I.ne⟩ hs2)

/-- C(..): the dict at the heap's end, the instance behind it; then its __init__ -/
theorem make_map {R : Result → Shared → Prop} {vs : List Value} {kw : List (Str × Value)} (X : K.In s.heap) (hm : PySem.W.makesIn K C = true)
    (hi : PySem.W.findIn K (.ref C) "__init__" = some (some (.ref f))) (hf : PySem.W.typeIn K (.ref f) = some (.type "function"))
    (h : codeAny (model prog w) (A.under (.builtin "type.__call__" ⟨.ref C :: vs, kw⟩)) (.call (.ref f) ⟨.ref (s.heap.objs.size + 1) :: vs, kw⟩) (PySem.W.InitBack (s.heap.objs.size + 1) R)
      { s with heap := (s.heap.push PySem.W.emptyDict).push (PySem.W.instObj C s.heap.objs.size) }) :
    codeAny (model prog w) A (.call (.ref C) ⟨vs, kw⟩) R s := by
  obtain ⟨hh, g, d, t, os⟩ := s
  exact PySem.W.make_core (PySem.W.makes_of X hm) (PySem.W.looks_findIn X hi) (fun self => PySem.W.bind_fn X self hf) (.inl rfl) h
end

/-! ### the attributes as a list of pairs -/
def putF (f : Str) (v : V) : List (Str × V) → List (Str × V)
  | [] => [(f, v)]
  | (g, x) :: r => if g = f then (g, v) :: r else (g, x) :: putF f v r
theorem lookup_putF (f g : Str) (v : V) : ∀ fs : List (Str × V), (putF f v fs).lookup g = if g = f then some v else fs.lookup g
  | [] => by
    show List.lookup g [(f, v)] = _
    by_cases h : g = f
    · have hb : (g == f) = true := beq_iff_eq.mpr h
      simp only [List.lookup, hb, if_pos h]
    · have hb : (g == f) = false := beq_eq_false_iff_ne.mpr h
      simp only [List.lookup, hb, if_neg h]
  | (k, x) :: r => by
    have ih := lookup_putF f g v r
    rw [show putF f v ((k, x) :: r) = (if k = f then (k, v) :: r else (k, x) :: putF f v r) from rfl]
    by_cases hk : k = f
    · rw [if_pos hk]
      by_cases h : g = k
      · have hb : (g == k) = true := beq_iff_eq.mpr h
        simp only [List.lookup, hb, if_pos (h.trans hk)]
      · have hb : (g == k) = false := beq_eq_false_iff_ne.mpr h
        simp only [List.lookup, hb, if_neg (fun e : g = f => h (e.trans hk.symm))]
    · rw [if_neg hk]
      by_cases h : g = k
      · have hb : (g == k) = true := beq_iff_eq.mpr h
        simp only [List.lookup, hb, if_neg (fun e : g = f => hk (h.symm.trans e))]
      · have hb : (g == k) = false := beq_eq_false_iff_ne.mpr h
        simp only [List.lookup, hb]
        exact ih
theorem keys_putF (f : Str) (v : V) : ∀ fs : List (Str × V), f ∈ (putF f v fs).map (·.1) ∧ ∀ g, g ∈ fs.map (·.1) → g ∈ (putF f v fs).map (·.1)
  | [] => ⟨by simp [putF], fun g h => by simp at h⟩
  | (k, x) :: r => by
    obtain ⟨i1, i2⟩ := keys_putF f v r
    rw [show putF f v ((k, x) :: r) = (if k = f then (k, v) :: r else (k, x) :: putF f v r) from rfl]
    by_cases hk : k = f
    · rw [if_pos hk]
      subst hk
      exact ⟨by simp, fun g h => by simpa using h⟩
    · rw [if_neg hk]
      refine ⟨?_, fun g h => ?_⟩
      · rw [List.map_cons]
        exact List.mem_cons_of_mem _ i1
      · rw [List.map_cons] at h ⊢
        rcases List.mem_cons.mp h with e | e
        · exact List.mem_cons.mpr (.inl e)
        · exact List.mem_cons_of_mem _ (i2 g e)
theorem length_putF (f : Str) (v : V) : ∀ fs : List (Str × V), (putF f v fs).length ≤ fs.length + 1
  | [] => by simp [putF]
  | (k, x) :: r => by
    have ih := length_putF f v r
    rw [show putF f v ((k, x) :: r) = (if k = f then (k, v) :: r else (k, x) :: putF f v r) from rfl]
    by_cases hk : k = f
    · rw [if_pos hk, List.length_cons, List.length_cons]; omega
    · rw [if_neg hk, List.length_cons, List.length_cons]; omega

theorem RelO.some_of {v : V} {o : Option Value} (r : RelO (some v) o) : ∃ u, o = some u ∧ RelV v u := by
  cases o with
  | none => exact (show False from r).elim
  | some u => exact ⟨u, rfl, r⟩
theorem RelO.none_of {o : Option Value} (r : RelO none o) : o = none := by
  cases o with
  | none => rfl
  | some u => exact (show False from r).elim
theorem handed_of {v : V} {u : Value} (r : RelV v u) : PySem.W.handedIn u = true := by
  cases v with
  | non => cases (show u = Value.none from r); rfl
  | bl b => cases (show u = Value.bool b from r); rfl
  | int i => obtain ⟨t, e⟩ := (show ∃ t, u = Value.int i t from r); cases e; rfl
  | str x => obtain ⟨t, e⟩ := (show ∃ t, u = Value.str x t from r); cases e; rfl
  | byt b => obtain ⟨t, e⟩ := (show ∃ t, u = Value.bytes b t from r); cases e; rfl
  | flt b => obtain ⟨t, e⟩ := (show ∃ t, u = Value.float b t from r); cases e; rfl
  | ref a => cases (show u = Value.ref a from r); rfl
  | ty n => cases (show u = Value.type n from r); rfl

section
variable {P : Program} {w : World} {H H' : Hp} {h h' : Heap} {a C dx : Addr} {fs fs' : List (Str × V)}
theorem ins_get (hok : HOk P w H h) (e : H a = some (.ins C dx fs)) : ∃ mA, ObjM h a dx C mA ∧ (∀ f, RelO (fs.lookup f) (mA f)) ∧ PySem.Within mA (fs.map (·.1)) ∧ fs.length ≤ 1000 ∧ H dx = some (.own a) := by
  obtain ⟨d, z, ne, ob, mA, n, r, q⟩ := (show ObjOk P w H h a (.ins C dx fs) from hok a _ e)
  exact ⟨mA, ⟨ob, n, ne⟩, r, q, z, d⟩
end

/-! ### what of the text a class must have -/
structure Cls (K : PySem.W.Frag) (C : Addr) : Prop where
  pg : PySem.W.plainGet K C Str.empty = true
  hd : PySem.W.hasDictIn K C = true
  po : PySem.W.plainOver K C = true
  sa : PySem.W.findIn K (.ref C) "__setattr__" = some (some (.builtin "object.__setattr__"))
theorem Cls.get {K : PySem.W.Frag} {C : Addr} (c : Cls K C) (f : Str) : PySem.W.plainGet K C f = true := c.pg
/-- no class of it has the name -/
def NoAttr (K : PySem.W.Frag) (C : Addr) (f : Str) : Prop := PySem.W.findIn K (.ref C) f = some none
theorem NoAttr.taker {K : PySem.W.Frag} {C : Addr} {f : Str} (n : NoAttr K C f) : PySem.W.takerIn K C f = some none := by
  unfold PySem.W.takerIn
  rw [show PySem.W.findIn K (.ref C) f = some none from n]
  rfl
/-- a constant of the class -/
structure Con (K : PySem.W.Frag) (C : Addr) (f : Str) (v : V) (u : Value) : Prop where
  at_ : PySem.W.findIn K (.ref C) f = some (some u)
  rel : RelV v u
  get : PySem.W.specialIn K u "__get__" = some none
  cp : PySem.W.copiedNames.contains f = false
/-- a method: a plain def of the class or of one above it -/
structure Meth (K : PySem.W.Frag) (C : Addr) (m : Str) (f : Addr) : Prop where
  at_ : PySem.W.findIn K (.ref C) m = some (some (.ref f))
  fn : PySem.W.isFn K (.ref f) = true
  kp : PySem.W.keepIn K (.ref f) = true

section
variable {X : Cx} {pins : List (Addr × Obj)} {σ : St} {H : Hp} {s : Shared} {a C dx : Addr} {fs : List (Str × V)} {f : Str} {v : V} {A : Around} {E : Value → Shared → Prop}

theorem getattr_ok {b : Bool} {Q : Value → Shared → Prop} (I : Inv X pins σ H s) (e : H a = some (.ins C dx fs)) (c : Cls X.K C) (n : NoAttr X.K C f) (l : fs.lookup f = some v)
    (h : ∀ u s', Inv X pins σ H s' → RelV v u → Q u s') : wpAny (model X.prog X.w) A (getAttr (.ref a) f b) Q E s := by
  obtain ⟨mA, O, r, _, _, _⟩ := ins_get I.hok e
  obtain ⟨u, hu, ru⟩ := RelO.some_of (v := v) (o := mA f) (by rw [← l]; exact r f)
  exact get_map I.kIn O (c.get f) c.hd n hu (handed_of ru) (h u _ (I.tok _) ru)

theorem getmeth_ok {m : Str} {g : Addr} {pl : Sem Bool} {Q : Value × List Value → Shared → Prop} (I : Inv X pins σ H s) (e : H a = some (.ins C dx fs)) (c : Cls X.K C) (k : Meth X.K C m g) (l : fs.lookup m = none)
    (h : Q (.ref g, [.ref a]) s) : wpAny (model X.prog X.w) A (getMethod (.ref a) m pl) Q E s := by
  obtain ⟨mA, O, r, _, _, _⟩ := ins_get I.hok e
  have hn : mA m = none := RelO.none_of (by rw [← l]; exact r m)
  exact get_meth I.kIn O (c.get m) k.at_ k.fn hn h

theorem setattr_ok {y : V} {u : Value} {Q : Unit → Shared → Prop} (I : Inv X pins σ H s) (e : H a = some (.ins C dx fs)) (c : Cls X.K C) (n : NoAttr X.K C f) (hl : fs.length < 1000) (ry : RelV y u)
    (h : ∀ s', Inv X pins σ (upd H a (.ins C dx (putF f y fs))) s' → Q () s') : wpAny (model X.prog X.w) A (setAttr (.ref a) f u) Q E s := by
  obtain ⟨mA, O, r, wi, _, ho⟩ := ins_get I.hok e
  have hz : (fs.map (·.1)).length ≤ sizeLine := by rw [List.length_map, sizeLine_eq]; omega
  refine set_map I.kIn O c.sa c.po n.taker c.hd wi hz fun h' O' sb => h _ ?_
  have hd : ∃ o, h'.get? dx = some o := let ⟨o, _, _, e', _⟩ := O'.ns; ⟨o, e'⟩
  refine I.write (x := a) (e := dx) (by rw [e]; exact True.intro) (.inr ho) (fun b q hb z => (sb.2 b hb).trans z) hd ?_
  refine ⟨by rw [upd_ne O.ne]; exact ho, ?_, O.ne, O'.obj, _, O'.ns, fun g => ?_, fun g hg => ?_⟩
  · have := length_putF f y fs; omega
  · show RelO ((putF f y fs).lookup g) (if g = f then some u else mA g)
    rw [lookup_putF]
    by_cases q : g = f
    · rw [if_pos q, if_pos q]; exact ry
    · rw [if_neg q, if_neg q]; exact r g
  · by_cases q : g = f
    · rw [q]; exact (keys_putF f y fs).1
    · refine (keys_putF f y fs).2 g (wi g fun z => hg ?_)
      show (if g = f then some u else mA g) = none
      rw [if_neg q]; exact z

/-- a new instance, tracked, without attributes -/
theorem Inv.made (I : Inv X pins σ H s) : Inv X pins σ (upd (upd H s.heap.objs.size (.own (s.heap.objs.size + 1))) (s.heap.objs.size + 1) (.ins C s.heap.objs.size []))
    { s with heap := (s.heap.push PySem.W.emptyDict).push (PySem.W.instObj C s.heap.objs.size) } := by
  have e1 : (s.heap.push PySem.W.emptyDict).get? s.heap.objs.size = some PySem.W.emptyDict := Heap.get?_push_size s.heap rfl
  have e2 : ((s.heap.push PySem.W.emptyDict).push (PySem.W.instObj C s.heap.objs.size)).get? (s.heap.objs.size + 1) = some (PySem.W.instObj C s.heap.objs.size) := by
    have := Heap.get?_push_size (s.heap.push PySem.W.emptyDict) (o := PySem.W.instObj C s.heap.objs.size) rfl
    rwa [Heap.size_push] at this
  have e3 : (s.heap.push PySem.W.emptyDict).Ns s.heap.objs.size (fun _ => none) := ⟨PySem.W.emptyDict, #[], _, e1, rfl, (fun e he => absurd he (by simp)), fun _ => rfl⟩
  have I1 := I.laid (a := s.heap.objs.size) (o := .own (s.heap.objs.size + 1)) (h' := s.heap.push PySem.W.emptyDict) (t' := s.toks) (fun b u q => Heap.get?_push_of_some _ q) (Nat.le_refl _) ⟨_, e1⟩
  refine I1.laid (a := s.heap.objs.size + 1) (o := .ins C s.heap.objs.size []) (t' := s.toks) (fun b u q => Heap.get?_push_of_some _ q) (Nat.le_of_eq (Heap.size_push _ _)) ?_
  have ne : s.heap.objs.size ≠ s.heap.objs.size + 1 := Nat.ne_of_lt (Nat.lt_succ_self _)
  refine ⟨by rw [upd_ne ne, upd_same], Nat.zero_le _, ne, e2, fun _ => none, (Heap.Ns1.of_empty e3).at fun o q => Heap.get?_push_of_some _ q, fun _ => True.intro, fun y hy => absurd rfl hy⟩

/-- e.f where nothing but the object is asked: through attributeBase (super) and the last hold -/
theorem attr_of {prog : Program} {w : World} {env : Env} {e : Expr} {f : Str} {pos : Pos} {s : Shared} {Q : Value → Shared → Prop} (hb : attributeBase e f env (eval e env) = eval e env)
    (h : wpAny (model prog w) A (eval e env) (fun o s₁ => wpAny (model prog w) A (getAttr o f true) Q E s₁) E s) : wpAny (model prog w) A (eval (.Attribute e f pos) env) Q E s :=
  Attribute_any_ h (by rw [arm_eval_Attribute, hb])
end

/-! ### readings and rules -/
/-- e.f, an attribute of the instance -/
def tFld (K : PySem.W.Frag) (ta : TE) (f : Str) : TE := fun σ H Q => ta σ H fun x H1 => ∃ a C dx fs v, x = .ref a ∧ H1 a = some (.ins C dx fs) ∧ Cls K C ∧ NoAttr K C f ∧ fs.lookup f = some v ∧ Q v H1
/-- e.f, a constant of the class -/
def tCon (K : PySem.W.Frag) (ta : TE) (f : Str) : TE := fun σ H Q => ta σ H fun x H1 => ∃ a C dx fs v u, x = .ref a ∧ H1 a = some (.ins C dx fs) ∧ Cls K C ∧ Con K C f v u ∧ fs.lookup f = none ∧ Q v H1
/-- e.f = value -/
def sFld (K : PySem.W.Frag) (ta tv : TE) (f : Str) : TS := fun D σ H => tv σ H fun y H1 => ta σ H1 fun x H2 => ∃ a C dx fs, x = .ref a ∧ H2 a = some (.ins C dx fs) ∧ Cls K C ∧ NoAttr K C f ∧ fs.length < 1000 ∧
  D.nx σ (upd H2 a (.ins C dx (putF f y fs)))
/-- an augmented operator on two values -/
def InOp (X : Cx) (op : Operator) (rd : V → V → Hp → VK → Prop) : Prop :=
  ∀ (pins : List (Addr × Obj)) (s : Shared) (σ : St) (H : Hp) (x y : V) (u v : Value) (Q : VK), Inv X pins σ H s → RelV x u → RelV y v → rd x y H Q → wpAny (model X.prog X.w) X.A (inplaceOp op u v) (EP X pins σ Q) X.xe s
/-- e.f op= value -/
def sFldAug (K : PySem.W.Frag) (ta tv : TE) (rd : V → V → Hp → VK → Prop) (f : Str) : TS := fun D σ H => ta σ H fun x H1 => ∃ a C dx fs v, x = .ref a ∧ H1 a = some (.ins C dx fs) ∧ Cls K C ∧ NoAttr K C f ∧ fs.lookup f = some v ∧
  tv σ H1 fun y H2 => rd v y H2 fun z H3 => ∃ dx' fs', H3 a = some (.ins C dx' fs') ∧ fs'.length < 1000 ∧ D.nx σ (upd H3 a (.ins C dx' (putF f z fs')))

section
variable {X : Cx} {o e value : Expr} {f : Str} {pos pos' tpos : Pos} {ta tv : TE}
theorem pe_fld (he : PE X e ta) (hb : attributeBase e f X.env (eval e X.env) = eval e X.env) : PE X (.Attribute e f pos) (tFld X.K ta f) := by
  intro pins s σ H Q I h
  refine attr_of hb (thn (he pins s σ H _ I h) fun u s1 ⟨x, H1, I1, rx, a, C, dx, fs, v, ex, ea, c, n, l, q⟩ => ?_)
  subst ex
  obtain rfl : u = Value.ref a := rx
  exact getattr_ok I1 ea c n l fun u' s2 I2 ru => ⟨v, H1, I2, ru, q⟩
theorem ps_fld (ha : PE X o ta) (hv : PE X value tv) (hs : swapsWith value (some (.Attribute o f pos')) pos.line X.env = pure false) : PS X (.Assign [.Attribute o f pos'] value pos) (sFld X.K ta tv f) := by
  intro pins s σ H D I h
  refine plainObj_wpAny_Assign_Attribute (thn (hv pins s σ H _ I h) fun u s1 ⟨y, H1, I1, ry, q⟩ => thn (ha pins s1 σ H1 _ I1 q) fun ov s2 ⟨x, H2, I2, rx, a, C, dx, fs, ex, ea, c, n, l, q2⟩ => ?_) hs
  subst ex
  obtain rfl : ov = Value.ref a := rx
  exact setattr_ok I2 ea c n l ry fun s3 I3 => ⟨σ, _, I3, q2⟩
def rAdd : V → V → Hp → VK → Prop := fun x y H Q => ∃ i j, x = .int i ∧ y = .int j ∧ Q (.int (i + j)) H
def rSub : V → V → Hp → VK → Prop := fun x y H Q => ∃ i j, x = .int i ∧ y = .int j ∧ Q (.int (i - j)) H
end

/-! ### isinstance -/
section
variable {X : Cx} {pins : List (Addr × Obj)} {σ : St} {H : Hp} {s : Shared} {A : Around} {E : Value → Shared → Prop} {Q : Value → Shared → Prop} {c : Value} {b : Bool}
/-- the type of a value, as the fragment's deciders take it; for an instance its class -/
inductive TyOf (K : PySem.W.Frag) (H : Hp) : V → Value → Prop where
  | non : TyOf K H .non (.type "NoneType")
  | bl (x : Bool) : TyOf K H (.bl x) (.type "bool")
  | int (i : Int) : TyOf K H (.int i) (.type "int")
  | str (x : Str) : TyOf K H (.str x) (.type "str")
  | flt (x : UInt64) : TyOf K H (.flt x) (.type "float")
  | lst {a : Addr} {xs : List V} (e : H a = some (.lst xs)) : TyOf K H (.ref a) (.type "list")
  | frz {a : Addr} {o : Obj} {xs : List V} (e : H a = some (.frz o (.lst xs))) : TyOf K H (.ref a) (.type "list")
  | tup {a : Addr} {xs : List V} (e : H a = some (.tup xs)) : TyOf K H (.ref a) (.type "tuple")
  | dK {a : Addr} {kvs : List (Key × V)} (e : H a = some (.dK kvs)) : TyOf K H (.ref a) (.type "dict")
  | dT {a : Addr} {kvs : List (List Key × V)} (e : H a = some (.dT kvs)) : TyOf K H (.ref a) (.type "dict")
  | ins {a C dx : Addr} {fs : List (Str × V)} (e : H a = some (.ins C dx fs)) (cl : Cls K C) (ha : PySem.W.findIn K (.ref C) "__class__" = some (some (.builtin "object.__class__")))
      (hn : PySem.W.specialIn K (.builtin "object.__class__") "__get__" = some (some (.builtin "getset_descriptor.__get__"))) (htk : PySem.W.takesIn K (.builtin "object.__class__") = some true)
      (hm : PySem.W.mroIn K C (.type "object") = some true) : TyOf K H (.ref a) (.ref C)
end
end L2

namespace L2
open PySem PySem.Spec PyProof.Rows

/-! ### room -/
structure Room (k : Nat) (A : Around) : Prop where
  hd : A.handled = none
  dp : A.depth + 3 * k + 5 < recursionLimit
  un : A.units + 16 * k + 200 < cLine
theorem Room.mono {j k : Nat} {A : Around} (r : Room k A) (h : j ≤ k) : Room j A := ⟨r.hd, by have := r.dp; omega, by have := r.un; omega⟩
theorem Room.deeper {k : Nat} {A : Around} (r : Room (k + 1) A) (env : Env) : Room k (A.deeper env) :=
  ⟨r.hd, by have := r.dp; show A.depth + 1 + 3 * k + 5 < _; omega, by have := r.un; show A.units + 3 + 16 * k + 200 < _; omega⟩
theorem make_depth {A : Around} {C : Addr} {us : List Value} {kw : List (Str × Value)} : (A.under (.builtin "type.__call__" ⟨.ref C :: us, kw⟩)).depth = A.depth + 1 := by
  first | rfl | simp [Around.under, Code.weight, Code.isCreation, Code.isGuard, Code.isCaller, Code.frames, Code.isFrame, guardIds]
theorem make_units {A : Around} {C : Addr} {us : List Value} {kw : List (Str × Value)} : (A.under (.builtin "type.__call__" ⟨.ref C :: us, kw⟩)).units = A.units + 1 := by
  first | rfl | simp [Around.under, Code.cUnits, Code.frames, Code.isFrame]
theorem Room.make {k : Nat} {A : Around} (r : Room (k + 1) A) (C : Addr) (us : List Value) (kw : List (Str × Value)) : Room k (A.under (.builtin "type.__call__" ⟨.ref C :: us, kw⟩)) :=
  ⟨r.hd, by have := r.dp; rw [make_depth]; omega, by have := r.un; rw [make_units]; omega⟩
theorem Room.depth {k : Nat} {A : Around} (r : Room k A) : A.depth < recursionLimit := by have := r.dp; omega
theorem Room.units {k : Nat} {A : Around} (r : Room k A) : A.units + 64 < cLine := by have := r.un; omega
/-! ### argument lists and displays -/
def tNil : TA := fun _ H Q => Q [] H
def tCons (ta : TE) (tr : TA) : TA := fun σ H Q => ta σ H fun x H1 => tr σ H1 fun xs H2 => Q (x :: xs) H2
section
variable {X : Cx} {e : Expr} {es : List Expr} {te : TE} {t : TA} {pos : Pos}
theorem pa_nil : PA X [] tNil := fun _ _ _ _ H Q I h => Calls.spliced_nil ⟨[], H, I, .nil, h⟩
theorem pa_cons (ha : PE X e te) (hr : PA X es t) (hs : starEach (e :: es) X.env = (false, eval e X.env) :: starEach es X.env := by rfl) : PA X (e :: es) (tCons te t) := by
  intro pos pins s σ H Q I h
  rw [hs]
  show wpAny _ _ (spliced ((false, eval e X.env) :: backTo pos (starEach es X.env))) _ _ s
  refine Calls.spliced_cons (thn (ha pins s σ H _ I h) fun u s1 ⟨x, H1, I1, r1, q1⟩ => ?_)
  exact thn (hr pos pins s1 σ H1 _ I1 q1) fun us s2 ⟨xs, H2, I2, r2, q2⟩ => ⟨x :: xs, H2, I2, .cons r1 r2, q2⟩

/-- a tuple, a list of written items -/
def tTup (t : TA) : TE := fun σ H Q => t σ H fun xs H1 => xs.length ≤ sizeLine ∧ ∀ p, H1 p = none → Q (.ref p) (upd H1 p (.tup xs))
def tLst (t : TA) : TE := fun σ H Q => t σ H fun xs H1 => xs.length ≤ sizeLine ∧ ∀ p, H1 p = none → Q (.ref p) (upd H1 p (.lst xs))
theorem pe_tup {x1} (h : PA X es t) : PE X (.Tuple es x1 pos) (tTup t) := by
  intro pins s σ H Q I hq
  refine wpAny_Tuple_spliced (thn (h pos pins s σ H _ I hq) fun us s1 ⟨xs, H1, I1, r, z, q⟩ => ⟨by rw [← r.length]; exact z, ?_⟩)
  have hf : H1 s1.heap.objs.size = none := I1.hok.fresh (Nat.le_refl _)
  refine ⟨.ref s1.heap.objs.size, upd H1 s1.heap.objs.size (.tup xs), I1.laid (t' := s1.toks) (fun b u e => Heap.get?_push_of_some _ e) (Nat.le_refl _) ?_, rfl, q _ hf⟩
  exact ⟨z, us, r, ⟨_, Heap.get?_push_size _ rfl, rfl, _, rfl⟩⟩
end

/-! ### what a def promises -/
/-- a def's promise: the bound arguments in the parameters' order, the heap, the wanted end, the wanted exception -/
abbrev Sp := List V → Hp → VK → XK → Prop
/-- how an exception lies behind a call (file 08 gives it): the callers' frames, abstract heap and state ahead of the call, the wish, the exception, the state -/
abbrev CXT := List Env → Hp → Shared → XK → Value → Shared → Prop

/-- the state at a call -/
structure Env0 (P : Program) (w : World) (K : PySem.W.Frag) (mg : Str → Option Value) (base : Heap) (A : Around) (outer : List Env) (s : Shared) (H : Hp) : Prop where
  frames : A.frames = some outer
  mod : Mod K mg base
  bs : ∀ b o, base.get? b = some o → s.heap.get? b = some o ∧ H b = none
  bsz : base.objs.size ≤ s.heap.objs.size
  funs : s.heap.FunFrames base outer
  frf : ∀ b ∈ frs outer, H b = none
  hok : HOk P w H s.heap
  bare : AllBare s.gens
/-- a call's end -/
def CE (outer : List Env) (P : Program) (w : World) (H : Hp) (s : Shared) (Q : VK) (u : Value) (s' : Shared) : Prop :=
  ∃ v H', s'.os = s.os ∧ AllBare s'.gens ∧ Un (frs outer) [] H H' s.heap s'.heap ∧ HOk P w H' s'.heap ∧ RelV v u ∧ Q v H'
def CR (CX : CXT) (outer : List Env) (P : Program) (w : World) (H : Hp) (s : Shared) (Q : VK) (E : XK) (r : Result) (s' : Shared) : Prop :=
  match r with
  | .ok (.ret u) => CE outer P w H s Q u s'
  | .ok _ => False
  | .error e => CX outer H s E e s'
structure FnOk (P : Program) (w : World) (K : PySem.W.Frag) (mg : Str → Option Value) (base : Heap) (CX : CXT) (k : Nat) (f : Addr) (fd : FuncData) (ps : List Str) (sp : Sp) : Prop where
  len : ∀ vs H Q E, sp vs H Q E → vs.length = ps.length
  run : ∀ (A : Around) (outer : List Env) (s : Shared) (H : Hp) (args : Args) (us : List Value) (vs : List V) (Q : VK) (E : XK), Room k A → Env0 P w K mg base A outer s H → BindsTo s fd args (ps.zip us) → Vals vs us → sp vs H Q E →
    codeAny (model P w) A (.call (.ref f) args) (CR CX outer P w H s Q E) s
theorem Env0.make {P : Program} {w : World} {K : PySem.W.Frag} {mg : Str → Option Value} {base : Heap} {A : Around} {outer : List Env} {s : Shared} {H : Hp} (e : Env0 P w K mg base A outer s H) (C : Addr) (us : List Value) (kw : List (Str × Value)) :
    Env0 P w K mg base (A.under (.builtin "type.__call__" ⟨.ref C :: us, kw⟩)) outer s H := ⟨by first | exact e.frames | (simpa [Around.under, Code.envs, Code.isFrame, pushEnvs] using e.frames), e.mod, e.bs, e.bsz, e.funs, e.frf, e.hok, e.bare⟩
section
variable {X : Cx} {pins : List (Addr × Obj)} {σ : St} {H : Hp} {s s' : Shared}
/-- from a body: what a callee wants -/
theorem Inv.env0 (I : Inv X pins σ H s) : Env0 X.prog X.w X.K X.mg X.base X.A X.stack s H :=
  ⟨I.ok.frames, I.ok.mod, I.bs, Nat.le_trans I.ok.bsz I.sz, I.stack, I.stkFree, I.hok, I.bare⟩
/-- behind a call -/
theorem Inv.after {Q : VK} {u : Value} (I : Inv X pins σ H s) (h : CE X.stack X.prog X.w H s Q u s') : EP X pins σ Q u s' := by
  obtain ⟨v, H', os, bare, un, hok, r, q⟩ := h
  obtain ⟨hh, g, d, t, os'⟩ := s'
  obtain rfl : os' = s.os := os
  exact ⟨v, H', I.call (h' := hh) (g' := g) (d' := d) (t' := t) (ch := []) un hok bare (fun b z => absurd z (by simp)), r, q⟩
end

/-! ### calls -/
/-- f(..): the written arguments, then the defaults dvs; E: what is wanted of an exception -/
def tCall (sp : Sp) (dvs : List V) (E : XK) (t : TA) : TE := fun σ H Q => t σ H fun vs H1 => sp (vs ++ dvs) H1 Q E
/-- o.m(..) of an instance of the class at C -/
def tMeth (C : Addr) (m : Str) (sp : Sp) (dvs : List V) (E : XK) (ta : TE) (t : TA) : TE := fun σ H Q => ta σ H fun x H1 => ∃ a dx fs, x = .ref a ∧ H1 a = some (.ins C dx fs) ∧ fs.lookup m = none ∧
  t σ H1 fun vs H2 => sp (x :: (vs ++ dvs)) H2 Q E
/-- C(..): a new instance and its dict, then __init__ -/
def tMake (C : Addr) (sp : Sp) (dvs : List V) (E : XK) (t : TA) : TE := fun σ H Q => t σ H fun vs H1 => ∀ x dx, H1 x = none → H1 dx = none → dx ≠ x →
  sp (.ref x :: (vs ++ dvs)) (upd (upd H1 dx (.own x)) x (.ins C dx [])) (fun v H2 => v = .non ∧ Q (.ref x) H2) E

/-- how the parameters are bound: us the positional arguments, kw the keywords' values by name, ds the defaults that fill up -/
def Binds (K : PySem.W.Frag) (fd : FuncData) (ps : List Str) (ds : List Value) : Prop :=
  ∀ (s : Shared) (us : List Value), K.In s.heap → (us ++ ds).length = ps.length → BindsTo s fd ⟨us, []⟩ (ps.zip (us ++ ds))
/-- every parameter is given -/
theorem Binds.all {K : PySem.W.Frag} {fd : FuncData} {ps : List Str} (h : ∀ us : List Value, us.length = ps.length → bindArgs fd ⟨us, []⟩ = pure (ps.zip us)) : Binds K fd ps [] := fun s us _ hl => by
  rw [List.append_nil] at hl ⊢
  exact .of_eq (h us hl)

/-- an exception of a callee reaches what this body wants of exceptions -/
def Passes (CX : CXT) (X : Cx) (E : XK) : Prop := ∀ (pins : List (Addr × Obj)) (σ : St) (H : Hp) (s : Shared) (e : Value) (s' : Shared), Inv X pins σ H s → CX X.stack H s E e s' → X.xe e s'

section
variable {X : Cx} {CX : CXT} {k : Nat} {f C : Addr} {fd : FuncData} {ps : List Str} {sp : Sp} {dvs : List V} {ds : List Value} {E : XK} {x m : Str} {p pos apos : Pos} {e o : Expr} {es : List Expr} {ta : TE} {t : TA}

/-- the callee runs -/
theorem run_fn {pins : List (Addr × Obj)} {σ : St} {H : Hp} {s : Shared} {Q : VK} {us : List Value} {vs : List V} (F : FnOk X.prog X.w X.K X.mg X.base CX k f fd ps sp) (hr : Room k X.A) (hb : Binds X.K fd ps ds) (hd : Vals dvs ds) (hx : Passes CX X E)
    (I : Inv X pins σ H s) (r : Vals vs us) (h : sp (vs ++ dvs) H Q E) : wpAny (model X.prog X.w) X.A (call (.ref f) us) (EP X pins σ Q) X.xe s := by
  have r2 : Vals (vs ++ dvs) (us ++ ds) := r.append hd
  have hl : (us ++ ds).length = ps.length := by rw [← r2.length]; exact F.len _ _ _ _ h
  refine wpAny_call (codeAny_mono (F.run X.A X.stack s H ⟨us, []⟩ (us ++ ds) (vs ++ dvs) Q E hr I.env0 (hb s us I.kIn hl) r2 h) fun r s' hq => ?_)
  cases r with
  | error e => exact hx pins σ H s e s' I hq
  | ok fl =>
    cases fl with
    | ret u => exact I.after hq
    | next => exact False.elim hq
    | brk => exact False.elim hq
    | cont => exact False.elim hq

theorem pe_call (F : FnOk X.prog X.w X.K X.mg X.base CX k f fd ps sp) (hr : Room k X.A) (hg : Gl X x) (hm : X.mg x = some (.ref f)) (hk : PySem.W.keepIn X.K (.ref f) = true) (hb : Binds X.K fd ps ds) (hd : Vals dvs ds) (hx : Passes CX X E)
    (ha : PA X (e :: es) t) (hdb : (x == ("__debug__" : Str)) = false := by decide) (he : starEach (e :: es) X.env = (false, eval e X.env) :: starEach es X.env := by rfl) (hpl : (backTo pos (starEach es X.env)).any (·.1) = false := by rfl) :
    PE X (.Call (.Name x p) (e :: es) [] pos) (tCall sp dvs E t) := by
  intro pins s σ H Q I h
  refine wpAny_Call_Name_kw (ld_glob I hg hm ?_ hdb)
  refine PySem.W.callWith_K (h₀ := X.base) I.ok.mod.kin hk (thn (ha pos pins s σ H _ I h) fun us s1 ⟨vs, H1, I1, r, q⟩ => ⟨I1.kIn, ?_⟩) he hpl
  exact run_fn F hr hb hd hx I1 r q
/-- o.m(e, ..) -/
theorem pe_meth {pl : Sem Bool} (he : PE X o ta) (c : Cls X.K C) (hm : Meth X.K C m f) (F : FnOk X.prog X.w X.K X.mg X.base CX k f fd ps sp) (hr : Room k X.A) (hb : Binds X.K fd ps ds) (hd : Vals dvs ds) (hx : Passes CX X E) (ha : PA X (e :: es) t)
    (hst : starEach (e :: es) X.env = (false, eval e X.env) :: starEach es X.env := by rfl) (hpl : (backTo pos (starEach es X.env)).any (·.1) = false := by rfl)
    (ht : eval (.Call (.Attribute o m apos) (e :: es) [] pos) X.env = (do
      let ov ← eval o X.env
      standAt apos.atName
      let (f, first) ← holding [ov] (getMethod ov m pl)
      callWith pos f first (backTo pos (starEach (e :: es) X.env)) (backToKw pos (keywordEach [] X.env))) := by rfl) :
    PE X (.Call (.Attribute o m apos) (e :: es) [] pos) (tMeth C m sp dvs E ta t) := by
  intro pins s σ H Q I h
  refine PySem.W.methodCall_KW (pl := pl) (thn (he pins s σ H _ I h) fun u s1 ⟨x, H1, I1, rx, a, dx, fs, ex, ea, l, q⟩ => ?_) ht
  subst ex
  obtain rfl : u = Value.ref a := rx
  refine getmeth_ok I1 ea c hm l ?_
  refine PySem.W.callWith_K (first := [.ref a]) (h₀ := X.base) I.ok.mod.kin hm.kp (thn (ha pos pins s1 σ H1 _ I1 q) fun us s2 ⟨vs, H2, I2, r, q2⟩ => ⟨I2.kIn, ?_⟩) hst hpl
  exact run_fn (us := .ref a :: us) (vs := .ref a :: vs) F hr hb hd hx I2 (.cons rfl r) q2
/-- what a class must have to be made -/
structure Mk (K : PySem.W.Frag) (C f : Addr) : Prop where
  makes : PySem.W.makesIn K C = true
  init : PySem.W.findIn K (.ref C) "__init__" = some (some (.ref f))
  fn : PySem.W.isFn K (.ref f) = true
  kp : PySem.W.keepIn K (.ref C) = true

theorem run_make {pins : List (Addr × Obj)} {σ : St} {H : Hp} {s : Shared} {Q : VK} {us : List Value} {vs : List V} (M : Mk X.K C f) (F : FnOk X.prog X.w X.K X.mg X.base CX k f fd ps sp) (hr : Room (k + 1) X.A) (hb : Binds X.K fd ps ds) (hd : Vals dvs ds)
    (hx : Passes CX X E) (I : Inv X pins σ H s) (r : Vals vs us)
    (h : ∀ x dx, H x = none → H dx = none → dx ≠ x → sp (.ref x :: (vs ++ dvs)) (upd (upd H dx (.own x)) x (.ins C dx [])) (fun v H2 => v = .non ∧ Q (.ref x) H2) E) :
    wpAny (model X.prog X.w) X.A (call (.ref C) us) (EP X pins σ Q) X.xe s := by
  have hq := h (s.heap.objs.size + 1) s.heap.objs.size (I.hok.fresh (Nat.le_succ _)) (I.hok.fresh (Nat.le_refl _)) (Nat.ne_of_lt (Nat.lt_succ_self _))
  have I2 := Inv.made (C := C) I
  have r2 : Vals (V.ref (s.heap.objs.size + 1) :: (vs ++ dvs)) (Value.ref (s.heap.objs.size + 1) :: (us ++ ds)) := .cons rfl (r.append hd)
  have hl : (Value.ref (s.heap.objs.size + 1) :: us ++ ds).length = ps.length := by
    have e := r2.length
    rw [F.len _ _ _ _ hq] at e
    exact e.symm
  refine wpAny_call (make_map (f := f) I.kIn M.makes M.init (beq_iff_eq.mp M.fn) (codeAny_mono (F.run _ X.stack _ _ ⟨Value.ref (s.heap.objs.size + 1) :: us, []⟩ (Value.ref (s.heap.objs.size + 1) :: (us ++ ds)) _ _ E (hr.make C us [])
    (I2.env0.make C us []) (hb _ (Value.ref (s.heap.objs.size + 1) :: us) I2.kIn hl) r2 hq) fun r s' hq' => ?_))
  cases r with
  | error e => exact hx pins σ _ _ e s' I2 hq'
  | ok fl =>
    cases fl with
    | ret u =>
      obtain ⟨v, H', I3, rv, ev, q3⟩ := I2.after hq'
      subst ev
      exact ⟨rv, ⟨V.ref (s.heap.objs.size + 1), H', I3, rfl, q3⟩⟩
    | next => exact False.elim hq'
    | brk => exact False.elim hq'
    | cont => exact False.elim hq'
end

/-! ### keywords -/
/-- the values of the keywords, from the left -/
def PK (X : Cx) (kws : List Keyword) (t : TA) : Prop :=
  ∀ (pos : Pos) (pins : List (Addr × Obj)) (s : Shared) (σ : St) (H : Hp) (Q : List V → Hp → Prop), Inv X pins σ H s → t σ H Q → wpAny (model X.prog X.w) X.A (evalAll ((backToKw pos (keywordEach kws X.env)).map (·.2))) (AP X pins σ Q) X.xe s
section
variable {X : Cx} {CX : CXT} {k : Nat} {f C : Addr} {fd : FuncData} {ps ks : List Str} {sp : Sp} {E : XK} {x m : Str} {p pos apos kpos : Pos} {e o : Expr} {es : List Expr} {kws : List Keyword} {te ta : TE} {t tk : TA} {nm : Option Str}
/-- how a call with keywords binds: g puts the positional values us and the keywords' values ws (names ks) in the parameters' order, defaults among them -/
structure KBinds (K : PySem.W.Frag) (fd : FuncData) (ps ks : List Str) (g : List Value → List Value → List Value) (gV : List V → List V → List V) : Prop where
  to : ∀ (s : Shared) (us ws : List Value), K.In s.heap → (g us ws).length = ps.length → BindsTo s fd ⟨us, ks.zip ws⟩ (ps.zip (g us ws))
  rel : ∀ {vs : List V} {us : List Value} {zs : List V} {ws : List Value}, Vals vs us → Vals zs ws → Vals (gV vs zs) (g us ws)
def tCallK (sp : Sp) (gV : List V → List V → List V) (E : XK) (t tk : TA) : TE := fun σ H Q => t σ H fun vs H1 => tk σ H1 fun zs H2 => sp (gV vs zs) H2 Q E
variable {g : List Value → List Value → List Value} {gV : List V → List V → List V}
end

/-! ### a def's body keeps its promise -/
/-- names: the parameters first -/
structure FnScope (N P : List Str) (sc : Scope) : Prop where
  kind : sc.kind = .function
  co : sc.isCoroutine = false
  gen : sc.isGenerator = false
  nd : N.Nodup
  pre : N.take P.length = P
  par : ∀ x ∈ P, sc.names.lookup x = some .local ∨ sc.names.lookup x = some .cell
  nofree : ∀ y ∈ sc.names, y.2 ≠ .free

theorem bindL_out {kindOf : Str → Option NameKind} {x : Str} : ∀ {binds : List (Str × Value)} {m : Str → Option Value}, (∀ v, (x, v) ∉ binds) → bindL kindOf binds m x = m x
  | [], _, _ => rfl
  | (n, v) :: r, m, h => by
    unfold bindL
    rw [bindL_out fun w hw => h w (List.mem_cons_of_mem _ hw)]
    split
    · have : x ≠ n := by rintro rfl; exact h v List.mem_cons_self
      simp [this]
    · rfl
theorem bindC_out {kindOf : Str → Option NameKind} {x : Str} : ∀ {binds : List (Str × Value)} {m : Str → Option Value}, (∀ v, (x, v) ∉ binds) → bindC kindOf binds m x = m x
  | [], _, _ => rfl
  | (n, v) :: r, m, h => by
    unfold bindC
    rw [bindC_out fun w hw => h w (List.mem_cons_of_mem _ hw)]
    split
    · rfl
    · have : x ≠ n := by rintro rfl; exact h v List.mem_cons_self
      simp [this]
theorem bindL_get {kindOf : Str → Option NameKind} {x : Str} {v : Value} : ∀ {P : List Str} {vs : List Value} {i : Nat} {m : Str → Option Value}, P.Nodup → P[i]? = some x → vs[i]? = some v → kindOf x = some .local →
    bindL kindOf (P.zip vs) m x = some v
  | [], _, _, _, _, h, _, _ => by simp at h
  | _ :: _, [], _, _, _, _, h, _ => by simp at h
  | p :: P, w :: vs, 0, m, nd, h1, h2, hk => by
    simp at h1 h2; subst h1; subst h2
    show bindL kindOf ((p, w) :: P.zip vs) m p = _
    unfold bindL
    rw [bindL_out fun v hv => (List.nodup_cons.mp nd).1 (List.of_mem_zip hv).1, if_pos hk]
    simp
  | p :: P, w :: vs, i + 1, m, nd, h1, h2, hk => by
    show bindL kindOf ((p, w) :: P.zip vs) m x = _
    unfold bindL
    exact bindL_get (i := i) (List.nodup_cons.mp nd).2 (by simpa using h1) (by simpa using h2) hk
theorem bindC_get {kindOf : Str → Option NameKind} {x : Str} {v : Value} : ∀ {P : List Str} {vs : List Value} {i : Nat} {m : Str → Option Value}, P.Nodup → P[i]? = some x → vs[i]? = some v → kindOf x ≠ some .local →
    bindC kindOf (P.zip vs) m x = some v
  | [], _, _, _, _, h, _, _ => by simp at h
  | _ :: _, [], _, _, _, _, h, _ => by simp at h
  | p :: P, w :: vs, 0, m, nd, h1, h2, hk => by
    simp at h1 h2; subst h1; subst h2
    show bindC kindOf ((p, w) :: P.zip vs) m p = _
    unfold bindC
    rw [bindC_out fun v hv => (List.nodup_cons.mp nd).1 (List.of_mem_zip hv).1, if_neg hk]
    simp
  | p :: P, w :: vs, i + 1, m, nd, h1, h2, hk => by
    show bindC kindOf ((p, w) :: P.zip vs) m x = _
    unfold bindC
    exact bindC_get (i := i) (List.nodup_cons.mp nd).2 (by simpa using h1) (by simpa using h2) hk

/-- the names' values at the entry -/
def start (N : List Str) (vs : List V) : St := vs.map some ++ List.replicate (N.length - vs.length) none

/-- the context of a def's body, at its entry; an exception leaves the frame, then lies as CX says -/
def cxOf (CX : CXT) (P : Program) (w : World) (K : PySem.W.Frag) (mg : Str → Option Value) (base : Heap) (N : List Str) (qual : Str) (scope : Scope) (f : Addr) (cd : Value) (A : Around) (outer : List Env) (s : Shared) (H : Hp) (E : XK) : Cx where
  prog := P
  w := w
  K := K
  mg := mg
  base := base
  A := A.deeper (envOfC qual scope s.heap.objs.size f cd)
  N := N
  s₀ := s
  H₀ := H
  env := envOfC qual scope s.heap.objs.size f cd
  outer := outer
  stack := envOfC qual scope s.heap.objs.size f cd :: outer
  ex := []
  calm := true
  fn := fun _ => true
  pn := []
  xe := fun e s' => wpAny (model P w) (A.deeper (envOfC qual scope s.heap.objs.size f cd)) (leaving (envOfC qual scope s.heap.objs.size f cd) e) (fun _ s'' => CX outer H s E e s'') (fun e' s'' => CX outer H s E e' s'') s'

theorem cell_has {sc : Scope} {n : Nat} {x : Str} (h : sc.names.lookup x = some .cell) : ∃ c, (cellsFrom n sc.names []).lookup x = some c := by
  have q := PySem.W.cellsFrom_some sc.names n [] (.inl h)
  exact Option.isSome_iff_exists.mp q

theorem inv_start {CX : CXT} {P : Program} {w : World} {K : PySem.W.Frag} {mg : Str → Option Value} {base : Heap} {N ps : List Str} {qual : Str} {scope : Scope} {f : Addr} {cd : Value} {A : Around} {outer : List Env} {s s1 : Shared} {H : Hp} {E : XK} {us : List Value} {vs : List V}
    (S : FnScope N ps scope) (hd : A.handled = none) (e0 : Env0 P w K mg base A outer s H) (hl : vs.length = ps.length) (r : Vals vs us)
    (x : InCallC s s.heap.objs.size (bindL (envOfC qual scope s.heap.objs.size f cd).kindOf (ps.zip us) fun _ => none) (cellsFrom (s.heap.objs.size + 1) scope.names []) (bindC (envOfC qual scope s.heap.objs.size f cd).kindOf (ps.zip us) fun _ => none) s1) :
    Inv (cxOf CX P w K mg base N qual scope f cd A outer s H E) [] (start N vs) H s1 := by
  have hpl : ps.length ≤ N.length := by have := congrArg List.length S.pre; rw [List.length_take] at this; omega
  obtain ⟨h1, tk, rfl, hk⟩ := x.done
  have noA : ∀ b : Addr, b ∉ (cxOf CX P w K mg base N qual scope f cd A outer s H E).ex := fun b z => absurd (show b ∈ ([] : List Addr) from z) (by simp)
  refine ⟨⟨e0.mod, S.kind, rfl, rfl, Nat.le_refl _, fun y z c h1 h2 => ?_, fun y hy => ?_, fun y c _ h => ?_, fun _ => hd, Around.frames_deeper e0.frames, .inr ⟨rfl, rfl⟩, fun b z => absurd z (noA b), e0.bs, e0.bsz, fun b _ _ => noA b, fun b z => absurd z (noA b), e0.funs, e0.frf⟩,
    rfl, e0.bare, Un.kept hk, ⟨_, x.toInCall.ns, fun i y v h1 h2 h3 => ?_⟩, fun y c h => ⟨_, x.cell y c h⟩, e0.hok.fresh (Nat.le_refl _), fun y c h => ?_, fun p hp => absurd (show p ∈ ([] : List (Addr × Obj)) from hp) (by simp), e0.hok.kept hk, ?_⟩
  · exact name_of_addr x.apart (PySem.mem_of_lookup h1) (PySem.mem_of_lookup h2)
  · have hy : scope.names.lookup y = some .cell ∨ scope.names.lookup y = some .free := hy
    rcases hy with hy | hy
    · exact cell_has hy
    · exact absurd rfl (S.nofree _ (PySem.mem_of_lookup hy))
  · exact Nat.le_of_lt (x.above y c (PySem.mem_of_lookup h))
  · have hi : i < vs.length := by
      unfold start at h2
      by_cases hi : i < vs.length
      · exact hi
      · rw [List.getElem?_append_right (by simpa using hi)] at h2
        rw [List.getElem?_replicate] at h2
        split at h2 <;> cases h2
    have ha : vs[i]? = some v := by
      unfold start at h2
      rw [List.getElem?_append_left (by simpa using hi), List.getElem?_map] at h2
      cases e : vs[i]? with
      | none => rw [e] at h2; cases h2
      | some a => rw [e] at h2; cases h2; rfl
    obtain ⟨u, hu, rv⟩ := r.get ha
    have hp : ps[i]? = some y := by
      rw [← S.pre, List.getElem?_take_of_lt (by omega)]; exact h1
    have ndP : ps.Nodup := by rw [← S.pre]; exact S.nd.sublist (List.take_sublist _ _)
    refine ⟨u, rv, ?_⟩
    rcases S.par y (List.mem_of_getElem? hp) with k | k
    · exact .inl ⟨k, bindL_get ndP hp hu k⟩
    · obtain ⟨c, e⟩ := cell_has (n := s.heap.objs.size + 1) k
      refine .inr ⟨.inl k, c, e, ?_⟩
      have q := x.cell y c e
      rw [bindC_get ndP hp hu (by show scope.names.lookup y ≠ _; rw [k]; decide)] at q
      exact q
  · exact e0.hok.fresh (Nat.le_of_lt (x.above y c (PySem.mem_of_lookup h)))
  · unfold start
    show _ = N.length
    rw [List.length_append, List.length_map, List.length_replicate]
    omega

/-- THE RULE: a def (or a method) of the text, by its body. The body's reading t is chosen for each entry; it is run at the parameters' values -/
theorem fn_of {CX : CXT} {P : Program} {w : World} {K : PySem.W.Frag} {mg : Str → Option Value} {base : Heap} {k : Nat} {f : Addr} {name qual : Str} {params : Arguments} {body : List Stmt} {scope : Scope} {dV kV doc pm cdv ct oc : Value} {an od : Option Addr}
    {osl : Array (Option Value)} {N ps : List Str} {sp : Sp} (lk : K.lookup f = some ⟨oc, od, .func (PySem.W.fnOf name qual params body scope dV kV doc pm an cdv ct), osl⟩) (hcd : PySem.W.codeIn K cdv qual = true) (S : FnScope N ps scope)
    (len : ∀ vs H Q E, sp vs H Q E → vs.length = ps.length)
    (hbody : ∀ (A : Around) (outer : List Env) (s : Shared) (H : Hp) (vs : List V) (Q : VK) (E : XK), Room k (A.deeper (envOfC qual scope s.heap.objs.size f cdv)) → sp vs H Q E →
      ∃ t, PSs (cxOf CX P w K mg base N qual scope f cdv A outer s H E) body t ∧ t { nx := fun _ H' => Q .non H', rt := Q } (start N vs) H) :
    FnOk P w K mg base CX (k + 1) f (PySem.W.fnOf name qual params body scope dV kV doc pm an cdv ct) ps sp := by
  refine ⟨len, fun A outer s H args us vs Q E hr e0 hb r hsp => ?_⟩
  have hl := len _ _ _ _ hsp
  have KX : K.In s.heap := e0.mod.kin.keeps fun b o e => (e0.bs b o e).1
  have lim : s.heap.NoLimit := e0.mod.nolimit.keeps fun b o e => (e0.bs b o e).1
  have hkind : ∀ y ∈ ps.zip us, scope.names.lookup y.1 = some .local ∨ (scope.names.lookup y.1 = some .cell ∧ ((cellsFrom (s.heap.objs.size + 1) scope.names []).lookup y.1).isSome = true) := fun ⟨n, v⟩ hy => by
    rcases S.par n (List.of_mem_zip hy).1 with q | q
    · exact .inl q
    · exact .inr ⟨q, PySem.W.cellsFrom_some _ _ _ (.inl q)⟩
  refine codeAny_call_function hr.depth (KX _ _ lk) rfl S.co S.gen rfl (PySem.W.codeRec_of KX hcd) (hb _ _ _ _ ?_)
  refine wpAny_newFunctionEnv_cells S.kind hkind fun env he s1 x => ?_
  subst he
  refine ⟨lim.keeps x.toInCall.keep, codeAny_func ?_⟩
  obtain ⟨t, ht, hq⟩ := hbody A outer s H vs Q E (hr.deeper _) hsp
  have I : Inv (cxOf CX P w K mg base N qual scope f cdv A outer s H E) [] (start N vs) H s1 := inv_start S hr.hd e0 hl r x
  refine wpAny_mono (ht [] s1 (start N vs) H _ I hq) (fun fl s' hs => ?_) fun e s' hs => hs
  have fin : ∀ {σ' : St} {H' : Hp} {v : V} {u : Value}, Inv (cxOf CX P w K mg base N qual scope f cdv A outer s H E) [] σ' H' s' → RelV v u → Q v H' → CE outer P w H s Q u s' :=
    fun {σ' H' v u} J rv q => ⟨v, H', J.os, J.bare, J.base, J.hok, rv, q⟩
  cases fl with
  | ret u =>
    obtain ⟨v, σ', H', J, rv, q⟩ := hs
    exact fin J rv q
  | next =>
    obtain ⟨σ', H', J, q⟩ := hs
    exact fin (v := V.non) (u := Value.none) J rfl q
  | brk =>
    obtain ⟨_, _, _, q⟩ := hs
    exact False.elim q
  | cont =>
    obtain ⟨_, _, _, q⟩ := hs
    exact False.elim q
end L2

namespace L2
open PySem PySem.Spec PyProof.Rows
section
variable {X : Cx} {x : Str} {p pos : Pos} {e : Expr} {es : List Expr} {t : TA} {id T : String} {r : List V → Hp → VK → Prop}

def tCB (r : List V → Hp → VK → Prop) (t : TA) : TE := fun σ H Q => t σ H fun vs H1 => r vs H1 Q
/-- f(e, ..), f a built-in function -/
theorem pe_callB (hc : CallR X (.builtin id) r) (hg : Gl X x) (hm : X.mg x = none) (hv : bootBuiltins x = some (.builtin id)) (ha : PA X (e :: es) t) (hn : x ≠ "__name__" := by decide) (hdb : (x == ("__debug__" : Str)) = false := by decide)
    (he : starEach (e :: es) X.env = (false, eval e X.env) :: starEach es X.env := by rfl) (hpl : (backTo pos (starEach es X.env)).any (·.1) = false := by rfl) : PE X (.Call (.Name x p) (e :: es) [] pos) (tCB r t) := by
  intro pins s σ H Q I h
  refine wpAny_Call_Name_kw (ld_blt I hg hm hv ?_ hn hdb)
  exact PyProof.Rows.callWith_builtin1 (thn (ha pos pins s σ H _ I h) fun us s1 ⟨vs, H1, I1, r1, q1⟩ => hc pins s1 σ H1 vs us Q I1 r1 q1) he hpl
/-- T(e, ..), T a built-in type -/
theorem pe_callTy (hc : CallR X (.type T) r) (hg : Gl X x) (hm : X.mg x = none) (hv : bootBuiltins x = some (.type T)) (ha : PA X (e :: es) t) (hn : x ≠ "__name__" := by decide) (hdb : (x == ("__debug__" : Str)) = false := by decide)
    (he : starEach (e :: es) X.env = (false, eval e X.env) :: starEach es X.env := by rfl) (hpl : (backTo pos (starEach es X.env)).any (·.1) = false := by rfl) : PE X (.Call (.Name x p) (e :: es) [] pos) (tCB r t) := by
  intro pins s σ H Q I h
  refine wpAny_Call_Name_kw (ld_blt I hg hm hv ?_ hn hdb)
  exact PyProof.Rows.callWith_type1 (thn (ha pos pins s σ H _ I h) fun us s1 ⟨vs, H1, I1, r1, q1⟩ => hc pins s1 σ H1 vs us Q I1 r1 q1) he hpl
end
end L2

namespace HT
open PySem PyProof.Rows

/-- t < u of tuples of ints -/
def lexLt : List Int → List Int → Bool
  | [], [] => false
  | [], _ :: _ => true
  | _ :: _, [] => false
  | x :: xs, y :: ys => if x = y then lexLt xs ys else decide (x < y)
section
open PySem.SeqAt
open PySem.AutoSeq1 (wpAny_loadPart')
open PySem.MeetsSeq PySem.MeetsSeq2 PySem.MeetsSeq3

end

section
variable {prog : Program} {w : World} {A : Around} {E : Value → Shared → Prop} {s : Shared}

/-! ### t[a:b], not the whole -/
/-- a slice's bound as a place among n (d where it is left out) -/
def sIx (n d : Nat) : Option Int → Nat
  | none => d
  | some v => if v < 0 then (v + (n : Int)).toNat else min v.toNat n
end
end HT

namespace L2
open PySem PySem.Spec PyProof.Rows

/-! ### the parts of a slice -/
abbrev TO := St → Hp → (Option Int → Hp → Prop) → Prop
/-- a slice's part (left out, or an int) -/
def PO (X : Cx) (e : Option Expr) (t : TO) : Prop :=
  ∀ (pins : List (Addr × Obj)) (s : Shared) (σ : St) (H : Hp) (Q : Option Int → Hp → Prop), Inv X pins σ H s → t σ H Q →
    wpAny (model X.prog X.w) X.A (evalPart e X.env) (fun u s' => ∃ o H', Inv X pins σ H' s' ∧ IsPart u o ∧ Q o H') X.xe s
def tNoPart : TO := fun _ H Q => Q none H
def tPart (t : TE) : TO := fun σ H Q => t σ H fun x H1 => ∃ i, x = .int i ∧ Q (some i) H1

theorem intsAre_of {ns : List Int} : ∀ {us : List Value}, Vals (ns.map V.int) us → IntsAre us ns := by
  induction ns with
  | nil => intro us r; rw [List.map_nil] at r; cases r; exact .nil
  | cons n ns ih =>
    intro us r
    rw [List.map_cons] at r
    cases r with
    | cons r1 r2 =>
      obtain ⟨t, e⟩ := r1
      subst e
      exact .cons n t (ih r2)

section
variable {X : Cx} {e : Expr} {te : TE} {lo hi : Option Expr} {tl th : TO} {pos p2 : Pos}

/-- what a slice of a value is, by values: the slice object stands at sl -/
def SlR (X : Cx) (r : V → Option Int → Option Int → Hp → VK → Prop) : Prop :=
  ∀ (pins : List (Addr × Obj)) (s : Shared) (σ : St) (H : Hp) (x : V) (v vl vu : Value) (lo hi : Option Int) (sl : Addr) (Q : VK), Inv X pins σ H s → RelV x v → s.heap.IsSliceOf sl vl vu .none → IsPart vl lo → IsPart vu hi → r x lo hi H Q →
    ∃ T id, typeLookup (.type T) "__getitem__" = pure (some (.builtin id)) ∧ s.TypeIs v T ∧ wpAny (model X.prog X.w) X.A (getItem v (.ref sl)) (EP X pins σ Q) X.xe s
def tSl (r : V → Option Int → Option Int → Hp → VK → Prop) (te : TE) (tl th : TO) : TE := fun σ H Q => te σ H fun x H1 => tl σ H1 fun l H2 => th σ H2 fun u H3 => r x l u H3 Q
/-- the items of xs[lo:hi] -/
def cutV (xs : List V) (lo hi : Option Int) : List V := (xs.drop (HT.sIx xs.length 0 lo)).take (HT.sIx xs.length xs.length hi - HT.sIx xs.length 0 lo)
/-- t[lo:hi], not the whole of it (the whole would be t itself) -/
def rSlT (K : PySem.W.Frag) : V → Option Int → Option Int → Hp → VK → Prop := fun x lo hi H Q => ∃ a xs, x = .ref a ∧ SqT K H a xs ∧
  ¬ (HT.sIx xs.length 0 lo = 0 ∧ HT.sIx xs.length xs.length hi = xs.length) ∧ ∀ p, H p = none → Q (.ref p) (upd H p (.tup (cutV xs lo hi)))
/-! ### t < u, t + u -/
def rLtT (K : PySem.W.Frag) : R2 := fun x y H Q => ∃ a b ns ms, x = .ref a ∧ y = .ref b ∧ SqT K H a (ns.map V.int) ∧ SqT K H b (ms.map V.int) ∧ Q (.bl (HT.lexLt ns ms)) H
/-- t + u, t not empty: u empty gives t itself -/
def rCatT (K : PySem.W.Frag) : R2 := fun x y H Q => ∃ a b xs ys, x = .ref a ∧ y = .ref b ∧ SqT K H a xs ∧ SqT K H b ys ∧ xs ≠ [] ∧ xs.length + ys.length ≤ sizeLine ∧
  (ys = [] → Q (.ref a) H) ∧ (ys ≠ [] → ∀ p, H p = none → Q (.ref p) (upd H p (.tup (xs ++ ys))))
end
end L2

namespace L2
open PySem PySem.Spec PyProof.Rows

/-! ### places -/
/-- the place that an index of any sign means -/
def ixN (n : Nat) (i : Int) : Option Nat := if 0 ≤ i then (if i < n then some i.toNat else none) else if -(n : Int) ≤ i then some (i + n).toNat else none
def atI {α : Type} (xs : List α) (i : Int) : Option α := (ixN xs.length i).bind fun j => xs[j]?
theorem ixN_seq {n : Nat} {i : Int} {j : Nat} (h : ixN n i = some j) : seqIndex? i n = some j ∧ j < n ∧ -(n : Int) ≤ i ∧ i < n := by
  unfold ixN at h
  by_cases h0 : 0 ≤ i
  · rw [if_pos h0] at h
    by_cases h1 : i < n
    · rw [if_pos h1] at h
      have e : i.toNat = j := Option.some.inj h
      exact ⟨by rw [seqIndex_of h0 h1, e], by omega, by omega, h1⟩
    · rw [if_neg h1] at h; cases h
  · rw [if_neg h0] at h
    by_cases h1 : -(n : Int) ≤ i
    · rw [if_pos h1] at h
      have e : (i + n).toNat = j := Option.some.inj h
      exact ⟨by rw [seqIndex_neg (by omega) h1, e], by omega, h1, by omega⟩
    · rw [if_neg h1] at h; cases h
theorem atI_get {α : Type} {xs : List α} {i : Int} {v : α} (h : atI xs i = some v) : ∃ j, seqIndex? i xs.length = some j ∧ xs[j]? = some v ∧ j < xs.length ∧ -(xs.length : Int) ≤ i ∧ i < xs.length := by
  unfold atI at h
  cases e : ixN xs.length i with
  | none => rw [e] at h; cases h
  | some j =>
    rw [e] at h
    obtain ⟨h1, h2, h3, h4⟩ := ixN_seq e
    exact ⟨j, h1, h, h2, h3, h4⟩
theorem atI_nat {α : Type} {xs : List α} {j : Nat} {v : α} (h : xs[j]? = some v) : atI xs (j : Int) = some v := by
  have hj : j < xs.length := (List.getElem?_eq_some_iff.mp h).1
  have e : ixN xs.length (j : Int) = some j := by
    unfold ixN
    rw [if_pos (by omega), if_pos (by omega)]; simp
  unfold atI; rw [e]; exact h
/-! ### what may be subscripted -/
/-- what stands as an index of a plain subscript -/
def PlainIx (b : Expr) : Prop := ∀ o i, subscripted b false o i = operate [o, i] (getItem o i)
/-- a subscript by values -/
def IxR (X : Cx) (r : R2) : Prop :=
  ∀ (value slice : Expr) (pins : List (Addr × Obj)) (s : Shared) (σ : St) (H : Hp) (x y : V) (v u : Value) (Q : VK), Inv X pins σ H s → RelV x v → RelV y u → r x y H Q →
    subscripted slice false v u = operate [v, u] (getItem v u) → wpAny (model X.prog X.w) X.A (subscriptTail value slice v u) (EP X pins σ Q) X.xe s
/-- a call of a builtin's method by values: the receiver, the arguments -/
def MtR (X : Cx) (id : String) (r : V → List V → Hp → VK → Prop) : Prop :=
  ∀ (pins : List (Addr × Obj)) (s : Shared) (σ : St) (H : Hp) (x : V) (xs : List V) (v : Value) (us : List Value) (Q : VK), Inv X pins σ H s → RelV x v → Vals xs us → r x xs H Q →
    wpAny (model X.prog X.w) X.A (call (.builtin id) (v :: us)) (EP X pins σ Q) X.xe s
section
variable {X : Cx} {a b : Expr} {ta tb : TE} {pos : Pos}
/-- a[b] -/
theorem pe_ix {r : R2} (hr : IxR X r) (ha : PE X a ta) (hb : PE X b tb) (hs : PlainIx b) : PE X (.Subscript a b pos) (tOp r ta tb) := by
  intro pins s σ H Q I h
  exact Subscript_ (binT ha hb I h fun v u s2 x y H2 I2 rx ry q => hr a b pins s2 σ H2 x y v u Q I2 rx ry q (hs _ _))

def rIxL (K : PySem.W.Frag) : R2 := fun x y H Q => ∃ p xs i v, x = .ref p ∧ y = .int i ∧ SqL K H p xs ∧ atI xs i = some v ∧ Q v H
def rIxT (K : PySem.W.Frag) : R2 := fun x y H Q => ∃ p xs i v, x = .ref p ∧ y = .int i ∧ SqT K H p xs ∧ atI xs i = some v ∧ Q v H
def rIxS : R2 := fun x y H Q => ∃ z i c, x = .str z ∧ y = .int i ∧ z.length ≤ sizeLine ∧ atI z.cps.toList i = some c ∧ Q (.str ⟨#[c]⟩) H
theorem ix_list : IxR X (rIxL X.K) := by
  intro value slice pins s σ H x y v u Q I rx ry h hs
  obtain ⟨p, xs, i, z, rfl, rfl, hq, he, q⟩ := h
  cases rx
  obtain ⟨t, rfl⟩ := ry
  obtain ⟨its, r, pl, hz⟩ := I.list hq
  obtain ⟨j, h1, h2, h3, h4, h5⟩ := atI_get he
  obtain ⟨w, ew, rw'⟩ := r.get h2
  have hl := r.length
  have hn := line63
  have fin : EP X pins σ Q w s := ⟨z, H, I, rw', q⟩
  by_cases h0 : 0 ≤ i
  · have hj : i.toNat = j := by
      rw [seqIndex_of h0 h5] at h1
      exact Option.some.inj h1
    exact item_listR pl.isList h0 (by omega) (by rw [hj]; simpa using ew) fin hs
  · have hj : (i + (its.toArray.size : Int)).toNat = j := by
      rw [seqIndex_neg (by omega) h4] at h1
      rw [List.size_toArray, ← hl]
      exact Option.some.inj h1
    exact subscriptTail_builtinR (x := w) pl.isList.typeIs slot_list_getitem.lookup
      (wpAny_getItem_list_neg (Q := fun r s' => r = w ∧ EP X pins σ Q r s') pl.isList (by omega) (by rw [List.size_toArray] <;> omega) (by omega) (by rw [hj]; simpa using ew) ⟨rfl, fin⟩) hs
theorem ix_tup : IxR X (rIxT X.K) := by
  intro value slice pins s σ H x y v u Q I rx ry h hs
  obtain ⟨p, xs, i, z, rfl, rfl, hq, he, q⟩ := h
  cases rx
  obtain ⟨t, rfl⟩ := ry
  obtain ⟨its, r, pl, hz⟩ := I.tuple hq
  obtain ⟨j, h1, h2, h3, h4, h5⟩ := atI_get he
  obtain ⟨w, ew, rw'⟩ := r.get h2
  have hl := r.length
  have hn := line63
  have fin : EP X pins σ Q w s := ⟨z, H, I, rw', q⟩
  exact subscriptTail_builtinR (x := w) pl.typeIs slot_tuple_getitem.lookup
    (getItem_tuple (j := j) (Q := fun r s' => r = w ∧ EP X pins σ Q r s') pl (by omega) (by omega) (by rw [List.size_toArray, ← hl]; exact h1) (by simpa using ew) ⟨rfl, fin⟩) hs
/-- list, tuple or str -/
def rIx (K : PySem.W.Frag) : R2 := fun x y H Q => rIxL K x y H Q ∨ rIxT K x y H Q ∨ rIxS x y H Q
/-! ### xs[i] = v, any sign -/
def rSetL : V → V → V → Hp → (Hp → Prop) → Prop := fun o i v H Q => ∃ p xs k j, o = .ref p ∧ i = .int k ∧ H p = some (.lst xs) ∧ ixN xs.length k = some j ∧ Q (upd H p (.lst (xs.set j v)))
/-! ### slices -/
/-- xs[lo:hi] of a list: a new list -/
def rSlL (K : PySem.W.Frag) : V → Option Int → Option Int → Hp → VK → Prop := fun x lo hi H Q => ∃ a xs, x = .ref a ∧ SqL K H a xs ∧ ∀ p, H p = none → Q (.ref p) (upd H p (.lst (cutV xs lo hi)))
/-! ### in, not in: flat items -/
def flatV : V → Bool
  | .non => true
  | .bl _ => true
  | .int _ => true
  | .str _ => true
  | _ => false
/-- == of flat values -/
def eqV : V → V → Bool
  | .non, .non => true
  | .bl a, .bl b => a == b
  | .bl a, .int b => (if a then 1 else 0) == b
  | .int a, .bl b => a == (if b then 1 else 0)
  | .int a, .int b => a == b
  | .str a, .str b => a == b
  | _, _ => false
/-- the items' answers, read off the values (a value's own answer does not lean on its token) -/
def eqU (x : V) (u : Value) : Bool := match u with
  | .none => eqV .non x
  | .bool b => eqV (.bl b) x
  | .int i _ => eqV (.int i) x
  | .str z _ => eqV (.str z) x
  | _ => false
def inV (x : V) (xs : List V) : Bool := xs.any fun y => eqV y x
/-- x in a list or tuple of flat items -/
def rIn (K : PySem.W.Frag) (neg : Bool) : R2 := fun x y H Q => ∃ p xs, y = .ref p ∧ (SqL K H p xs ∨ SqT K H p xs) ∧ flatV x = true ∧ xs.all flatV = true ∧ Q (.bl (if neg then !inV x xs else inV x xs)) H
/-! ### len, list(x), tuple(x) of any list or tuple that is read -/
theorem call_len_seq : CallR X (.builtin "len") (fun xs H Q => ∃ p ys, xs = [.ref p] ∧ (SqL X.K H p ys ∨ SqT X.K H p ys) ∧ Q (.int ys.length) H) := by
  intro pins s σ H xs us Q I r h
  obtain ⟨p, ys, rfl, hq, q⟩ := h
  obtain ⟨u, rfl, rx⟩ := vals1 r
  cases rx
  have hn := line63
  rcases hq with hq | hq
  · obtain ⟨its, r', pl, hz⟩ := I.list hq
    have hlen := r'.length
    exact Calls.call_len_list pl.isList (by simp only [List.size_toArray] <;> omega) ⟨.int ys.length, H, I.tok _, ⟨s.toks + 1, by rw [List.size_toArray, hlen]⟩, q⟩
  · obtain ⟨its, r', pl, hz⟩ := I.tuple hq
    have hlen := r'.length
    exact len_tuple pl (by simp only [List.size_toArray] <;> omega) ⟨.int ys.length, H, I.tok _, ⟨s.toks + 1, by rw [List.size_toArray, hlen]⟩, q⟩
/-! ### the call of a builtin's method: o.m(..) -/
/-- the value is of that builtin type -/
def tyV (K : PySem.W.Frag) (T : String) (x : V) (H : Hp) : Prop := match x with
  | .str _ => T = "str"
  | .int _ => T = "int"
  | .ref p => (T = "list" ∧ ∃ xs, SqL K H p xs) ∨ (T = "tuple" ∧ ∃ o, K.lookup p = some o ∧ o.cls = .type "tuple" ∧ o.dict = none) ∨
      (T = "dict" ∧ ((∃ kvs, H p = some (.dK kvs)) ∨ ∃ kvs, H p = some (.dT kvs))) ∨ (T = "set" ∧ ∃ S n, H p = some (.set S n))
  | _ => False
theorem tyV_is {pins : List (Addr × Obj)} {σ : St} {H : Hp} {s : Shared} {T : String} {x : V} {v : Value} (I : Inv X pins σ H s) (r : RelV x v) (ty : tyV X.K T x H) :
    s.TypeIs v T ∧ ∀ a, v = .ref a → ∃ ob, s.heap.get? a = some ob ∧ ob.dict = none := by
  cases x with
  | str z =>
    obtain ⟨t, rfl⟩ := r
    cases (show T = "str" from ty)
    exact ⟨typeIs_str s z t, fun _ e => nomatch e⟩
  | int i =>
    obtain ⟨t, rfl⟩ := r
    cases (show T = "int" from ty)
    exact ⟨typeIs_int s i t, fun _ e => nomatch e⟩
  | ref p =>
    cases r
    rcases ty with ⟨rfl, xs, hq⟩ | ⟨rfl, o, hk, hc, hd⟩ | ⟨rfl, hk⟩ | ⟨rfl, S, n, hk⟩
    · obtain ⟨its, _, pl, _⟩ := I.list hq
      refine ⟨pl.isList.typeIs, fun a e => ?_⟩
      cases e
      obtain ⟨o, n, e, c, hd, _⟩ := pl
      exact ⟨o, e, hd⟩
    · refine ⟨⟨o, I.kIn p o hk, hc⟩, fun a e => ?_⟩
      cases e
      exact ⟨o, I.kIn _ o hk, hd⟩
    · have z : ∃ o, s.heap.get? p = some o ∧ o.ExactDict := by
        rcases hk with ⟨kvs, hk⟩ | ⟨kvs, hk⟩
        · obtain ⟨_, _, _, _, o, _, _, e, ex, _⟩ := I.hok p _ hk
          exact ⟨o, e, ex⟩
        · obtain ⟨_, _, _, _, o, _, _, e, ex, _⟩ := I.hok p _ hk
          exact ⟨o, e, ex⟩
      obtain ⟨o, e, ex⟩ := z
      refine ⟨⟨o, e, ex.1⟩, fun a e2 => ?_⟩
      cases e2
      exact ⟨o, e, ex.2.1⟩
    · obtain ⟨o, _, _, _, e, ex, _⟩ := I.hok p _ hk
      refine ⟨⟨o, e, ex.1⟩, fun a e2 => ?_⟩
      cases e2
      exact ⟨o, e, ex.2.1⟩
  | _ => exact False.elim ty
def tBM0 (K : PySem.W.Frag) (T : String) (r : V → List V → Hp → VK → Prop) (to : TE) : TE := fun σ H Q => to σ H fun x H1 => tyV K T x H1 ∧ r x [] H1 Q
def tBM (K : PySem.W.Frag) (T : String) (r : V → List V → Hp → VK → Prop) (to : TE) (t : TA) : TE := fun σ H Q => to σ H fun x H1 => tyV K T x H1 ∧ t σ H1 fun xs H2 => r x xs H2 Q
variable {o e : Expr} {es : List Expr} {to : TE} {t : TA} {name : Str} {apos cpos : Pos} {T id : String} {r : V → List V → Hp → VK → Prop}
theorem pe_bm (pa : PlainAttrs T) (slot : Slot T name id) (hty : typeOf (.builtin id) = pure (.type "method_descriptor")) (hm : MtR X id r) (ho : PE X o to) (ha : PA X (e :: es) t)
    (hbase : attributeBase o name X.env (eval o X.env) = eval o X.env := by rfl)
    (hfew : ((backTo cpos (starEach (e :: es) X.env)).all (fun x => !x.1) && (backToKw cpos (keywordEach [] X.env)).all (fun x => x.1.isSome)
      && decide ((e :: es).length + ([] : List Keyword).length + (if ([] : List Keyword).isEmpty then 0 else 1) < 30)) = true := by rfl)
    (hline : (apos.endLine == cpos.line) = true := by rfl) (hs : starEach (e :: es) X.env = (false, eval e X.env) :: starEach es X.env := by rfl) (hplain : (backTo cpos (starEach es X.env)).any (·.1) = false := by rfl) :
    PE X (.Call (.Attribute o name apos) (e :: es) [] cpos) (tBM X.K T r to t) := by
  intro pins s σ H Q I h
  refine wpAny_Call_method_late hbase hfew hline rfl (thn (ho pins s σ H _ I h) fun v s1 ⟨x, H1, I1, r1, ty, q1⟩ => ?_)
  obtain ⟨h1, h2⟩ := tyV_is I1 r1 ty
  refine ⟨T, id, pa, slot, hty, h1, h2, ?_⟩
  have hA := ha cpos pins s1 σ H1 _ I1 q1
  rw [hs] at hA ⊢
  refine Calls.callWith_builtin (by show (false || (backTo cpos (starEach es X.env)).any (·.1)) = false; rw [hplain] <;> rfl) (Calls.evalArgs_plain ?_)
  exact thn hA fun us s2 ⟨vs, H2, I2, r2, q2⟩ => hm pins s2 σ H2 x vs v us Q I2 r1 r2 q2
/- xs.append(e), list.index on a module's tuple .. are MtR facts of 06m -/
end
end L2

namespace L2
open PySem PySem.Spec PyProof.Rows

def MtM (X : Cx) (id : String) (r : V → List V → Hp → VK → Prop) : Prop :=
  ∀ (pins : List (Addr × Obj)) (s : Shared) (σ : St) (H : Hp) (x : V) (xs : List V) (v : Value) (us : List Value) (Q : VK), Inv X pins σ H s → RelV x v → Vals xs us → r x xs H Q →
    wpAny (model X.prog X.w) X.A (call (.builtin id) (v :: us)) (EP X pins σ Q) X.xe s

/-! ### lists of values -/
section
variable {X : Cx} {pins : List (Addr × Obj)} {σ : St} {H : Hp} {s : Shared} {l b : Addr} {xs ys zs : List V}

/-! ### the two steps: a tracked list is rewritten, a new list is laid -/
theorem Inv.lset {its its' : List Value} {n : Nat} {f : Array Value → Array Value} {t' : Nat} (I : Inv X pins σ H s) (hH : H l = some (.lst xs))
    (e : s.heap.get? l = some { cls := .type "list", data := .seq its.toArray n }) (hf : f its.toArray = its'.toArray) (hv : Vals ys its') (hz : ys.length ≤ sizeLine) :
    Inv X pins σ (upd H l (.lst ys)) { s with heap := s.heap.update l (Obj.mapSeq f), toks := t' } := by
  have q := PySem.IsL.update e f
  rw [hf] at q
  refine I.write (x := l) (e := l) (by rw [hH]; exact trivial) (.inl rfl) (fun b' u hb hu => (Heap.get?_update_other s.heap (Obj.mapSeq f) (Ne.symm hb)).trans hu) ⟨_, q⟩ ?_
  exact ⟨hz, its', _, hv, q⟩
theorem Inv.lnew {its : List Value} {t' : Nat} (I : Inv X pins σ H s) (hv : Vals ys its) (hz : ys.length ≤ sizeLine) :
    Inv X pins σ (upd H s.heap.objs.size (.lst ys)) { s with heap := s.heap.push { cls := .type "list", data := .seq its.toArray }, toks := t' } :=
  I.laid (fun _ _ q => Heap.get?_push_of_some _ q) (Nat.le_refl _) ⟨hz, its, 0, hv, Heap.get?_push_size _ rfl⟩
theorem Inv.fresh (I : Inv X pins σ H s) : H s.heap.objs.size = none := I.hok.fresh (Nat.le_refl _)
theorem Inv.lstM (I : Inv X pins σ H s) (hH : H l = some (.lst xs)) : xs.length ≤ sizeLine ∧ ∃ (its : List Value) (n : Nat), Vals xs its ∧ xs.length = its.length ∧ s.heap.get? l = some { cls := .type "list", data := .seq its.toArray n } := by
  obtain ⟨z, its, n, r, e⟩ := I.hok l _ hH
  exact ⟨z, its, n, r, r.length, e⟩

end

section
variable {X : Cx}

/-! ### methods -/
def rAppend : V → List V → Hp → VK → Prop := fun x vs H Q => ∃ l xs y, x = .ref l ∧ vs = [y] ∧ H l = some (.lst xs) ∧ xs.length < sizeLine ∧ Q .non (upd H l (.lst (xs ++ [y])))
def rExtend : V → List V → Hp → VK → Prop := fun x vs H Q => ∃ l b xs zs, x = .ref l ∧ vs = [.ref b] ∧ H l = some (.lst xs) ∧ H b = some (.lst zs) ∧ xs.length + zs.length ≤ sizeLine ∧ Q .non (upd H l (.lst (xs ++ zs)))
def rPop : V → List V → Hp → VK → Prop := fun x vs H Q => ∃ l xs y, x = .ref l ∧ vs = [] ∧ H l = some (.lst xs) ∧ xs[xs.length - 1]? = some y ∧ Q y (upd H l (.lst xs.dropLast))
def rPopAt : V → List V → Hp → VK → Prop := fun x vs H Q => ∃ l xs i k y, x = .ref l ∧ vs = [.int i] ∧ H l = some (.lst xs) ∧ -(2 ^ 63) ≤ i ∧ i < 2 ^ 63 ∧ seqIndex? i xs.length = some k ∧ xs[k]? = some y ∧ Q y (upd H l (.lst (xs.eraseIdx k)))
def rReverse : V → List V → Hp → VK → Prop := fun x vs H Q => ∃ l xs, x = .ref l ∧ vs = [] ∧ H l = some (.lst xs) ∧ Q .non (upd H l (.lst xs.reverse))
def rClear : V → List V → Hp → VK → Prop := fun x vs H Q => ∃ l xs, x = .ref l ∧ vs = [] ∧ H l = some (.lst xs) ∧ Q .non (upd H l (.lst []))
/-! ### list + list, list += list, list * int -/
def rCat : R2 := fun x y H Q => ∃ l b xs zs, x = .ref l ∧ y = .ref b ∧ H l = some (.lst xs) ∧ H b = some (.lst zs) ∧ xs.length + zs.length ≤ sizeLine ∧ ∀ p, H p = none → Q (.ref p) (upd H p (.lst (xs ++ zs)))
theorem op_cat : OpR X (binaryOp .Add) rCat := by
  intro pins s σ H x y v u Q I rx ry h
  obtain ⟨l, b, xs, zs, rfl, rfl, hH, hB, hz, q⟩ := h
  cases rx
  cases ry
  obtain ⟨z, its, n, r, hl, e⟩ := I.lstM hH
  obtain ⟨z2, its2, n2, r2, hl2, e2⟩ := I.lstM hB
  refine PySem.P.add_list e e2 ?_ (by rw [List.size_toArray, List.size_toArray]; omega)
  have ea : its.toArray ++ its2.toArray = (its ++ its2).toArray := by simp
  rw [ea]
  exact ⟨.ref _, _, I.lnew (t' := s.toks) (r.append r2) (by rw [List.length_append]; omega), rfl, q _ I.fresh⟩
/-- a list times an int (a negative one is nothing) -/
def rRep : R2 := fun x y H Q => ∃ l k xs, x = .ref l ∧ y = .int k ∧ H l = some (.lst xs) ∧ -(2 ^ 63) ≤ k ∧ k < 2 ^ 63 ∧ xs.length * k.toNat ≤ sizeLine ∧
  ∀ p, H p = none → Q (.ref p) (upd H p (.lst (List.replicate k.toNat xs).flatten))
/-! ### del xs[i] -/
end

/-! ### xs[a:b] = ys -/
section
variable {prog : Program} {w : World} {A : Around} {E : Value → Shared → Prop} {s : Shared}
set_option maxRecDepth 100000 in
end

section
variable {X : Cx}
end
end L2

namespace Att
open PySem PySem.W PySem.Calls PyProof.Rows

/-! ### the script -/
theorem ints_of_wellAll {P : Params} {h : Heap} : ∀ (ns : List Int) (vs : List Value), WellAll P h vs (ns.map WData.int) → IntsAre vs ns := by
  intro ns
  induction ns with
  | nil =>
    intro vs w
    rw [List.map_nil] at w
    cases w
    exact .nil
  | cons n ns ih =>
    intro vs w
    rw [List.map_cons] at w
    cases w with
    | cons a b =>
      cases a
      exact .cons _ _ (ih _ b)

theorem script_of {l : OpenLaw} {n : Nat} (hn : l.most = some n) {P : Params} {h : Heap} {args : List WData} {vals : List Value}
    (hpre : l.row.toRowW.claim.pre args = true) (hwl : WellAll P h vals args) :
    ∃ a vs ns, vals = [Value.ref a] ∧ args = [WData.list (ns.map WData.int)] ∧ h.get? a = some { cls := .type "list", data := .seq vs.toArray } ∧ IntsAre vs ns ∧ ns.length ≤ n := by
  have hsh : WShape.hasAll [] args [.list .int] = true := (pre_splitW hpre).1
  have hc : l.pre.holds [] { args := args } = true := (pre_splitW hpre).2
  obtain ⟨d, r, rfl, h1, h2⟩ := hasAllW_cons hsh
  obtain rfl := hasAllW_nil h2
  obtain ⟨xs, rfl, h3⟩ := hasW_list h1
  obtain ⟨ns, rfl⟩ := items_int h3
  have hlen : ns.length ≤ n := by
    unfold OpenLaw.pre at hc
    have h4 : (WTm.not (.lt (.lit (.int (n : Int))) (.len (.arg 0)))).holds [] { args := [.list (ns.map .int)] } = true := by
      have h4 := (holds_andW hc).1
      rw [hn] at h4
      exact h4
    have h5 := condW_of h4 (w_not (w_lt w_lit (w_len_list (w_arg rfl))))
    rw [List.length_map] at h5
    refine Nat.le_of_not_lt fun q => ?_
    have q' : (n : Int) < ((ns.length : Nat) : Int) := by omega
    first
      | (rw [decide_eq_true q'] at h5; exact absurd h5 (by decide))
      | (simp at h5; omega)
  cases hwl with
  | cons w1 w2 =>
    cases w2
    cases w1 with
    | list ho hall => exact ⟨_, _, ns, rfl, rfl, ho, ints_of_wellAll ns _ hall, hlen⟩

theorem post_true (l : OpenLaw) (args : List WData) : l.row.toRowW.claim.post args (.bool true) args = true :=
  postW_of (r := l.row.toRowW) (X := (true == true))
    (show WShape.has [] (.bool true) .bool = true by first | rfl | decide | simp [WShape.has, WShape.arms, WShape.armsAll])
    (show (WTm.eq .res (.lit (.bool true))).value [] { args := args, res := some (.bool true), after := args } = some (.bool (true == true)) from w_eq_bool (w_res rfl) w_lit) rfl

/-! ### the attachment: holds_open's last premise (the goal 'hc' behind k_head) from a wpAny of the law's body -/
/-- the same from a codeAny of the CALL (for a layer whose function contracts speak of calls) -/
theorem attach_call {l : OpenLaw} {n : Nat} {q : Program} {loose : List Str} {XP : (Str → Option Value) → Heap → Prop} {YP : World → Heap → Prop} {d : DefRec}
    (hn : l.most = some n) (hdf : d.params.defaults = [])
    (call : ∀ (w : World) (s₀ s₁ : Shared) (mg mb : Str → Option Value) (fa : Addr) (o : Obj) (pm cd doc : Value) (a : Addr) (vs : List Value) (ns : List Int),
      Ground q loose [] XP w s₀ mg mb s₁.heap → YP w s₁.heap →
      s₁.heap.get? fa = some o → o.data = .func (docDef d.name d.params d.body d.scope pm cd doc) → s₁.heap.CodeRec cd d.name → mg d.name = some (.ref fa) →
      s₁.heap.get? a = some { cls := .type "list", data := .seq vs.toArray } → IntsAre vs ns → ns.length ≤ n → s₁.gens = #[] →
      codeAny (model l.prog w) callerA (.call (.ref fa) ⟨[.ref a], []⟩) (fun r s' => r = .ok (.ret (.bool true)) ∧ OldK s₁.heap s'.heap ∧ s'.os = s₁.os ∧ AllBare s'.gens) s₁) :
    WalkO q loose XP YP l.row.toRowW d [] (fun f vs => PySem.call f vs) := by
  intro w s₀ s₁ mg mb G Y fa o pm cd doc dV kV ho hd hcd hD hmg hg args vals as hpre hlay hrd hwl hlo
  obtain rfl : dV = .none := Dflts.none hD hdf
  obtain rfl : kV = .none := Dflts.noKw hD
  obtain ⟨a, vs, ns, rfl, rfl, hobj, hints, hlen⟩ := script_of hn hpre hwl
  refine enter_call (codeAny_mono (call w s₀ s₁ mg mb fa o pm cd doc a vs ns G Y ho (fd_plain hd) hcd hmg hobj hints hlen hg) fun r s' hq => ?_)
  obtain ⟨rfl, h2, h3, h4⟩ := hq
  exact ⟨.inl ⟨.bool true, .bool true, [], rfl, fun _ => rfl, .bool true, post_true l _, fun _ => ⟨List.Pairwise.nil, fun _ hm => (nomatch hm)⟩⟩, h2, h3, h4⟩

/-! ### rules over ANY heap (no ledger) from facts about the written part K: the library's own take a ledger (News) for what they write -/
section
variable {prog : Program} {w : World} {A : Around} {E : Value → Shared → Prop} {s : Shared} {K : Frag}

/-! the whole heap as the ledger: makes every rule that writes through a ledger a rule over any heap -/
def noObjs (h : Heap) : Heap := { h with objs := #[] }
def ledger (h : Heap) (L d : Addr) : List (Addr × Obj) := (List.range h.objs.size).filterMap fun a => if a = L ∨ a = d then none else (h.get? a).map fun o => (a, o)
end
end Att

namespace L2
open PySem PySem.Spec PyProof.Rows

theorem vals_ints : ∀ {vs : List Value} {ns : List Int}, IntsAre vs ns → Vals (ns.map V.int) vs
  | _, _, .nil => .nil
  | _, _, .cons n t h => .cons ⟨t, rfl⟩ (vals_ints h)

/-- nothing is tracked but the script, known to the object (or it is an object of the module) -/
def Only (H : Hp) : Prop := ∀ b, H b = none ∨ ∃ o xs, H b = some (.frz o (.lst xs))

/-- THE HEAD: the law's promise, at the heap behind the top. F, the promise of the law's def, may use that base is part of the heap (so K.In base, base.Ns mainGlobals mg stand in Mod) -/
theorem law_call {P : Program} {w : World} {K : PySem.W.Frag} {mg mb : Str → Option Value} {CX : CXT} {k : Nat} {fa a : Addr} {fd : FuncData} {x : Str} {sp : Sp} {s₁ : Shared} {vs : List Value} {ns : List Int}
    (KX : K.In s₁.heap) (hns : s₁.heap.Ns mainGlobals mg) (hb : s₁.heap.Ns builtinsNs mb) (hbb : ∀ x : Str, x ≠ "__name__" → mb x = bootBuiltins x) (hlim : s₁.heap.NoLimit) (hg : s₁.gens = #[])
    (ha : s₁.heap.get? a = some { cls := .type "list", data := .seq vs.toArray }) (hi : IntsAre vs ns) (hl : ns.length ≤ sizeLine) (hr : Room k callerA)
    (F : ∀ base : Heap, K.In base → base.Ns mainGlobals mg → FnOk P w K mg base CX k fa fd [x] sp) (hbind : ∀ (s : Shared) (u : Value), BindsTo s fd ⟨[u], []⟩ [(x, u)])
    (hsp : ∀ H : Hp, Only H → SqL K H a (ns.map V.int) → sp [.ref a] H (fun v _ => v = .bl true) fun _ _ _ => False)
    (hCX : ∀ H e s', CX [] H s₁ (fun _ _ _ => False) e s' → False) :
    codeAny (model P w) callerA (.call (.ref fa) ⟨[.ref a], []⟩) (fun r s' => r = .ok (.ret (.bool true)) ∧ OldK s₁.heap s'.heap ∧ s'.os = s₁.os ∧ AllBare s'.gens) s₁ := by
  have rv := vals_ints hi
  have lenV := hi.length
  -- from an abstract heap in which nothing but the script may be tracked
  have core : ∀ H : Hp, Only H → SqL K H a (ns.map V.int) → HOk P w H s₁.heap → (∀ b, H b ≠ none → b = a) → (H a ≠ none → K.lookup a = none) →
      codeAny (model P w) callerA (.call (.ref fa) ⟨[.ref a], []⟩) (fun r s' => r = .ok (.ret (.bool true)) ∧ OldK s₁.heap s'.heap ∧ s'.os = s₁.os ∧ AllBare s'.gens) s₁ := by
    intro H hO hS hok hA hK
    have base_of : ∀ {b : Addr} {o : Obj}, s₁.heap.get? b = some o → H b = none → (hidT s₁.heap H).get? b = some o := fun e n => hidT_get e n
    have noA : ∀ {b : Addr} {o : Obj} {es : Array DictEntry} {ep : Nat}, s₁.heap.get? b = some o → o.data = .dict es ep → H b = none := fun {b o es ep} e d => by
      cases q : H b with
      | none => rfl
      | some u =>
        have e' : b = a := hA b (by rw [q]; simp)
        subst e'
        rw [ha] at e; cases e
        have d' : Data.seq vs.toArray _ = Data.dict es ep := d
        cases d'
    have nsK : ∀ {b : Addr} {m : Str → Option Value}, s₁.heap.Ns b m → (hidT s₁.heap H).Ns b m := fun {b m} ⟨o, es, ep, e, d, r⟩ => ⟨o, es, ep, base_of e (noA e d), d, r⟩
    have hKb : K.In (hidT s₁.heap H) := fun b o e => base_of (KX b o e) (by
      cases q : H b with
      | none => rfl
      | some u =>
        have e' : b = a := hA b (by rw [q]; simp)
        subst e'
        rw [hK (by rw [q]; simp)] at e; cases e)
    have hM : Mod K mg (hidT s₁.heap H) := ⟨hKb, nsK hns, ⟨mb, nsK hb, hbb⟩, let ⟨mc, h1, h2⟩ := hlim; ⟨mc, nsK h1, h2⟩⟩
    have e0 : Env0 P w K mg (hidT s₁.heap H) callerA [] s₁ H := ⟨rfl, hM, fun b o e => of_hidT e, Nat.le_of_eq (hidT_size _ _), trivial, fun b hb => absurd (show b ∈ ([] : List Addr) from hb) (by simp), hok, .of_eq hg⟩
    refine codeAny_mono ((F _ hKb (nsK hns)).run callerA [] s₁ H ⟨[.ref a], []⟩ [.ref a] [.ref a] _ _ hr e0 (hbind s₁ (.ref a)) (.cons rfl .nil) (hsp H hO hS)) fun r s' h => ?_
    cases r with
    | error e => exact (hCX H e s' h).elim
    | ok fl =>
      cases fl with
      | next => exact False.elim h
      | brk => exact False.elim h
      | cont => exact False.elim h
      | ret u =>
        obtain ⟨v, H', os, bare, un, hok', r', q⟩ := h
        have q' : v = .bl true := q
        subst q'
        obtain rfl : u = Value.bool true := r'
        refine ⟨rfl, OldK.of_keep fun b o e => ?_, os, bare⟩
        cases q : H b with
        | none => exact un.keep b o e q (by intro z; exact absurd (show b ∈ ([] : List Addr) from z) (by simp)) (by simp)
        | some u =>
          rcases hO b with z | ⟨ob, xs, z⟩
          · rw [q] at z; cases z
          · have z2 := un.frzs b ob _ z
            obtain ⟨e1, _⟩ := hok b _ z
            obtain ⟨e2, _⟩ := hok' b _ z2
            rw [e] at e1; cases e1
            exact e2
  cases hk : K.lookup a with
  | some o =>
    -- the script is one of the module's own objects
    have e := KX a o hk
    rw [ha] at e
    cases e
    refine core (fun _ => none) (fun _ => .inl rfl) (.inr ⟨_, vs.toArray, _, hk, rfl, rfl, rfl, by rw [List.size_toArray, lenV]; exact hl, by simpa using rv⟩) (fun b u z => by have z' : (none : Option HO) = some u := z; cases z') (fun b z => absurd rfl z) fun z => absurd rfl z
  | none =>
    refine core (fun b => if b = a then some (.frz { cls := .type "list", data := .seq vs.toArray } (.lst (ns.map V.int))) else none) (fun b => ?_) (.inl (.inr ⟨{ cls := .type "list", data := .seq vs.toArray }, if_pos rfl⟩)) (fun b u z => ?_) (fun b z => ?_) fun _ => hk
    · by_cases hb : b = a
      · exact .inr ⟨_, _, if_pos hb⟩
      · exact .inl (if_neg hb)
    · by_cases hb : b = a
      · have z' := (if_pos hb).symm.trans z
        cases z'
        subst hb
        exact ⟨ha, by rw [List.length_map]; exact hl, vs, _, rv, ha⟩
      · have z' := (if_neg hb).symm.trans z
        cases z'
    · by_cases hb : b = a
      · exact hb
      · exact absurd (if_neg hb) z
end L2

namespace L2
open PySem PySem.Spec PyProof.Rows

abbrev KOf {K : PySem.W.Frag} {h : Heap} (_ : K.In h) : PySem.W.Frag := K

/-- the goal that k_head leaves (case hc), from the law's promise. F gives the function object fd (K's own) once, then the promise over every base -/
theorem walk_of {l : PySem.W.OpenLaw} {n k : Nat} {q : Program} {loose : List Str} {XP : (Str → Option Value) → Heap → Prop} {YP : World → Heap → Prop} {d : DefRec} {K : Params → PySem.W.Frag} {CX : World → CXT} {sp : World → Sp} {x : Str}
    (hn : l.most = some n) (hn2 : n ≤ sizeLine) (hdf : d.params.defaults = []) (hr : Room k callerA)
    (hY : ∀ (w : World) (h : Heap), YP w h → (K w.params).In h)
    (F : ∀ (w : World) (mg : Str → Option Value) (fa : Addr) (h : Heap), (K w.params).In h → h.Ns mainGlobals mg → mg d.name = some (.ref fa) →
      ∃ fd : FuncData, (∀ (s : Shared) (u : Value), BindsTo s fd ⟨[u], []⟩ [(x, u)]) ∧
        ∀ base : Heap, (K w.params).In base → base.Ns mainGlobals mg → FnOk l.prog w (K w.params) mg base (CX w) k fa fd [x] (sp w))
    (hsp : ∀ (w : World) (H : Hp) (a : Addr) (ns : List Int), ns.length ≤ n → Only H → SqL (K w.params) H a (ns.map V.int) → sp w [.ref a] H (fun v _ => v = .bl true) fun _ _ _ => False)
    (hCX : ∀ (w : World) (H : Hp) (s : Shared) (e : Value) (s' : Shared), CX w [] H s (fun _ _ _ => False) e s' → False) :
    PySem.W.WalkO q loose XP YP l.row.toRowW d [] (fun f vs => PySem.call f vs) := by
  refine Att.attach_call hn hdf fun w s₀ s₁ mg mb fa o pm cd doc a vs ns G Y ho hd hcd hmg hobj hints hlen hg => ?_
  have KX := hY w _ Y
  obtain ⟨fd, hb, hF⟩ := F w mg fa _ KX G.T.g hmg
  exact law_call KX G.T.g G.T.b G.T.builtins G.T.nolimit hg hobj hints (Nat.le_trans hlen hn2) hr hF hb (fun H hO hS => hsp w H a ns hlen hO hS) fun H e s' => hCX w H s₁ e s'
end L2

/- THE LAST THEOREM (shape; LID, My.* are yours):
   My.Adr: a structure of the addresses that your layer names (classes, functions); My.Txt K t: a structure (Prop) of the equations over K;
   My.txt_mk : {K} {implicit addresses ..} (e1 : nsIn K mainGlobals "law" = some (some (.ref f))) (e2 : K.lookup f = some ⟨oc, od, .func (fnOf "law" "law" params body scope dV kV doc pm an cdv ct), sl⟩) (e3 : codeIn K cdv "law" = true) .. : ∃ t, My.Txt K t

set_option maxRecDepth 100000 in
set_option maxHeartbeats 0 in
theorem PySem.Challenge.cw_LID_holds : PySem.Challenge.rw_LID.Holds := by
  w_on; o_law; k_head; (case hw => w_witness2)
  k_fill
  refine L2.walk_of (l := PySem.Challenge.rw_LID) (n := 63) (k := 40) (x := "script") (CX := fun w => ..) (sp := fun _ => My.sp_law) rfl (by decide) rfl ⟨rfl, by decide, by decide⟩ (fun w h Y => PySem.W.kIn_of Y) ?F ?S ?C
  case F =>
    intro w mg fa h KX G hmg
    have T : ∃ t, My.Txt (L2.KOf KX) t := by
      dsimp only [L2.KOf]                          -- K must stand as «<heap const> w.params» for k_is
      refine' My.txt_mk ?e1 ?e2 ?e3 ..
      (case e1 => PySem.W.k_is)                    -- in the order: a name -> its address -> its object -> its parts
      (case e2 => PySem.W.k_is)
      ..
    obtain ⟨t, T⟩ := T
    have e0 := hmg.symm.trans (PySem.W.mg_of KX G T.law)
    cases e0                                       -- fa is the law's own address
    exact ⟨_, fun s u => .of_eq rfl, fun base kb nb => My.law_fn T kb nb⟩     -- if «.of_eq rfl» comes too early: refine' ⟨_, ?b, fun base kb nb => My.law_fn T kb nb⟩; exact fun s u => .of_eq rfl
  case S => exact fun w H a ns hl hO hS => ..
  case C => exact ..
(the tactic k_is has no namespace: write k_is) -/

/-! SHORT WORDS over the layer: a def of the text, its body, what a loop and a test want. -/
namespace L2
open PySem PySem.Spec PyProof.Rows

/-! ### the text by places -/
/-- the j-th statement of a class's body -/
def inClass (s : Stmt) (j : Nat) : Stmt := match s with
  | .ClassDef _ _ _ body _ _ _ _ _ _ _ => body.getD j (.Pass ⟨0, 0, 0, 0⟩)
  | _ => .Pass ⟨0, 0, 0, 0⟩
def defArgs (s : Stmt) : Arguments := match s with
  | .FunctionDef _ a _ _ _ _ _ _ _ _ => a
  | _ => { posonlyargs := [], args := [], vararg := none, kwonlyargs := [], kw_defaults := [], kwarg := none, defaults := [] }
def defBody (s : Stmt) : List Stmt := match s with
  | .FunctionDef _ _ b _ _ _ _ _ _ _ => b
  | _ => []
def defScope (s : Stmt) : Scope := match s with
  | .FunctionDef _ _ _ _ _ _ sc _ _ _ => sc
  | _ => { kind := .function, names := [], isGenerator := false, isCoroutine := false }

/-! ### no exception leaves a def -/
abbrev CX0 : CXT := fun _ _ _ _ _ _ => False
abbrev E0 : XK := fun _ _ _ => False
theorem pass0 {X : Cx} : Passes CX0 X E0 := fun _ _ _ _ _ _ _ h => h.elim

/-! ### a def (or method) of the text as it stands behind the top -/
structure Fun (K : PySem.W.Frag) (x qual : Str) (st : Stmt) (f : Addr) (fd : FuncData) : Prop where
  ex : ∃ (oc : Value) (od : Option Addr) (kV doc pm : Value) (an : Option Addr) (cdv ct : Value) (osl : Array (Option Value)),
    fd = PySem.W.fnOf x qual (defArgs st) (defBody st) (defScope st) .none kV doc pm an cdv ct ∧ K.lookup f = some ⟨oc, od, .func fd, osl⟩ ∧ PySem.W.codeIn K cdv qual = true
  kp : PySem.W.keepIn K (.ref f) = true
section
variable {P : Program} {w : World} {K : PySem.W.Frag} {mg : Str → Option Value} {base : Heap}
/-- THE RULE for a def: its body as a term of rules, and the reading of that term -/
theorem Fun.ok {x qual : Str} {st : Stmt} {f : Addr} {fd : FuncData} {N ps : List Str} {k : Nat} {sp : Sp} (F : Fun K x qual st f fd) (S : FnScope N ps (defScope st)) (len : ∀ vs H Q E, sp vs H Q E → vs.length = ps.length)
    (hbody : ∀ (cdv : Value) (A : Around) (outer : List Env) (s : Shared) (H : Hp) (vs : List V) (Q : VK) (E : XK), Room k (A.deeper (envOfC qual (defScope st) s.heap.objs.size f cdv)) → sp vs H Q E →
      ∃ t, PSs (cxOf CX0 P w K mg base N qual (defScope st) f cdv A outer s H E).nox (defBody st) t ∧ t { nx := fun _ H' => Q .non H', rt := Q } (start N vs) H) : FnOk P w K mg base CX0 (k + 1) f fd ps sp := by
  obtain ⟨oc, od, kV, doc, pm, an, cdv, ct, osl, rfl, lk, hcd⟩ := F.ex
  refine fn_of lk hcd S len fun A outer s H vs Q E hr hsp => ?_
  obtain ⟨t, h, q⟩ := hbody cdv A outer s H vs Q E hr hsp
  exact ⟨t, h.nox, q⟩
/-- how its arguments bind (no defaults): h is «fun _ _ _ _ _ _ us hl => match us, hl with | [_, _], _ => rfl», one _ a parameter -/
theorem Fun.binds {x qual : Str} {st : Stmt} {f : Addr} {fd : FuncData} {ps : List Str} (F : Fun K x qual st f fd)
    (h : ∀ (kV doc pm : Value) (an : Option Addr) (cdv ct : Value) (us : List Value), us.length = ps.length → bindArgs (PySem.W.fnOf x qual (defArgs st) (defBody st) (defScope st) .none kV doc pm an cdv ct) ⟨us, []⟩ = pure (ps.zip us)) : Binds K fd ps [] := by
  obtain ⟨oc, od, kV, doc, pm, an, cdv, ct, osl, rfl, lk, hcd⟩ := F.ex
  exact .all (h kV doc pm an cdv ct)
theorem fun_mk {x qual : Str} {st : Stmt} {f : Addr} {oc : Value} {od an : Option Addr} {osl : Array (Option Value)} {kV doc pm cdv ct : Value} (l : K.lookup f = some ⟨oc, od, .func (PySem.W.fnOf x qual (defArgs st) (defBody st) (defScope st) .none kV doc pm an cdv ct), osl⟩)
    (c : PySem.W.codeIn K cdv qual = true) (k : PySem.W.keepIn K (.ref f) = true) : Fun K x qual st f (PySem.W.fnOf x qual (defArgs st) (defBody st) (defScope st) .none kV doc pm an cdv ct) := ⟨⟨oc, od, kV, doc, pm, an, cdv, ct, osl, rfl, l, c⟩, k⟩
end
theorem small1000 {n : Nat} (h : n ≤ 1000) : n < sizeLine := Nat.lt_of_le_of_lt h (by decide)

/-! ### expressions in short: the name that stands in the i-th slot -/
section
variable {X : Cx}
theorem pv (i : Nat) {x : Str} {pos : Pos} (hN : X.N[i]? = some x := by rfl) (hv : Vis X.env.scope x := by first | exact Or.inl rfl | exact Or.inr (Or.inl rfl) | exact Or.inr (Or.inr rfl)) (hd : (x == ("__debug__" : Str)) = false := by decide)
    (hcd : (x == ("__classdict__" : Str)) = false := by decide) : PE X (.Name x pos) (tVar i) := pe_var hN hv hd hcd
end

/-! ### tests -/
theorem iteF {A B : Prop} (h : B) : if false = true then A else B := by
  rw [if_neg Bool.false_ne_true]
  exact h
theorem iteT {A B : Prop} (h : A) : if true = true then A else B := by
  rw [if_pos rfl]
  exact h
theorem ite2 {c A B : Prop} [Decidable c] (h1 : c → A) (h2 : ¬ c → B) : if c then A else B := by
  by_cases h : c
  · rw [if_pos h]
    exact h1 h
  · rw [if_neg h]
    exact h2 h
/-! ### heaps -/
/-- all that was tracked is as it was -/
def Same (H H' : Hp) : Prop := ∀ b o, H b = some o → H' b = some o
theorem Same.refl (H : Hp) : Same H H := fun _ _ h => h
theorem Same.trans {H H1 H2 : Hp} (a : Same H H1) (b : Same H1 H2) : Same H H2 := fun c o h => b c o (a c o h)
theorem Same.free {H H' : Hp} (e : Same H H') {l : Addr} (h : H' l = Option.none) : H l = Option.none := by
  cases q : H l with
  | none => rfl
  | some o =>
    rw [e l o q] at h
    cases h
theorem Same.seq {K : PySem.W.Frag} {H H' : Hp} {a : Addr} {xs : List V} (e : Same H H') (h : SqL K H a xs) : SqL K H' a xs := by
  rcases h with (h | ⟨o, h⟩) | h
  · exact .inl (.inl (e _ _ h))
  · exact .inl (.inr ⟨o, e _ _ h⟩)
  · exact .inr h

end L2
/-! ### what a comprehension's names are -/
namespace PySem
open Sem (wp)
def relab (env : Env) (p : Str × NameKind) : Str × NameKind := if (p.2 == NameKind.free && env.scope.kind == .function && env.kindOf p.1 == some .cell) = true then (p.1, NameKind.cell) else (p.1, p.2)
theorem relab_fst (env : Env) (p : Str × NameKind) : (relab env p).1 = p.1 := by unfold relab; split <;> rfl
theorem relab_lookup (env : Env) : ∀ (names : List (Str × NameKind)) (x : Str), (names.map (relab env)).lookup x = (names.lookup x).map fun k => (relab env (x, k)).2
  | [], _ => rfl
  | (n, k) :: r, x => by
    have ih := relab_lookup env r x
    rw [List.map_cons]
    rw [show relab env (n, k) = ((relab env (n, k)).1, (relab env (n, k)).2) from rfl, relab_fst, List.lookup_cons, List.lookup_cons]
    cases hx : x == n with
    | true =>
      have := eq_of_beq hx
      subst this
      rfl
    | false => exact ih
theorem relab_kind (env : Env) (x : Str) (k : NameKind) : (relab env (x, k)).2 = k ∨ (k = .free ∧ (relab env (x, k)).2 = .cell) := by
  unfold relab
  split
  · rename_i h
    have q := (Bool.and_eq_true_iff.mp (Bool.and_eq_true_iff.mp h).1).1
    exact .inr ⟨eq_of_beq q, rfl⟩
  · exact .inl rfl
theorem closure_go (env : Env) : ∀ (names : List (Str × NameKind)) (cs : List (Str × Addr)),
    (∀ y ∈ names, y.2 = .free → ∃ c, env.cells.lookup y.1 = some c) → (∀ y c, cs.lookup y = some c → env.cells.lookup y = some c) →
    ∃ cl, (forIn names cs (fun (x : Str × NameKind) (r : List (Str × Addr)) => if (x.2 == NameKind.free) = true then (do let a ← cellOf env x.1; pure (ForInStep.yield ((x.1, a) :: r))) else pure (ForInStep.yield r)) : Sem (List (Str × Addr))) = pure cl ∧
      (∀ y c, cl.lookup y = some c → env.cells.lookup y = some c) ∧ (∀ y, (cs.lookup y).isSome = true → (cl.lookup y).isSome = true) ∧ ∀ y ∈ names, y.2 = .free → (cl.lookup y.1).isSome = true
  | [], cs, _, h2 => ⟨cs, rfl, h2, fun _ h => h, fun _ h => nomatch h⟩
  | (n, k) :: r, cs, h1, h2 => by
    by_cases hk : k = .free
    · subst hk
      obtain ⟨c, hc⟩ := h1 (n, .free) List.mem_cons_self rfl
      have hc : env.cells.lookup n = some c := hc
      have h3 : ∀ y d, ((n, c) :: cs).lookup y = some d → env.cells.lookup y = some d := fun y d e => by
        rw [List.lookup_cons] at e
        cases q : y == n with
        | true => rw [q] at e; cases e; rw [eq_of_beq q]; exact hc
        | false => rw [q] at e; exact h2 y d e
      obtain ⟨cl, e, a1, a2, a3⟩ := closure_go env r ((n, c) :: cs) (fun y hy => h1 y (List.mem_cons_of_mem _ hy)) h3
      refine ⟨cl, ?_, a1, fun y hy => a2 y ?_, fun y hy hf => ?_⟩
      · rw [List.forIn_cons]
        have : cellOf env n = pure c := by unfold cellOf; rw [hc]
        simp only [this, beq_self_eq_true, if_true]
        exact e
      · rw [List.lookup_cons]; split
        · rfl
        · exact hy
      · rcases List.mem_cons.mp hy with z | z
        · subst z; exact a2 n (by rw [List.lookup_cons]; simp)
        · exact a3 y z hf
    · obtain ⟨cl, e, a1, a2, a3⟩ := closure_go env r cs (fun y hy => h1 y (List.mem_cons_of_mem _ hy)) h2
      refine ⟨cl, ?_, a1, a2, fun y hy hf => ?_⟩
      · rw [List.forIn_cons]
        have : (k == NameKind.free) = false := by simpa using hk
        simp only [this, Bool.false_eq_true, if_false]
        exact e
      · rcases List.mem_cons.mp hy with z | z
        · subst z; exact absurd hf hk
        · exact a3 y z hf
theorem closure_ex {scope : Scope} {env : Env} (h : ∀ y ∈ scope.names, y.2 = .free → ∃ c, env.cells.lookup y.1 = some c) :
    ∃ cl, closureFor scope env = pure cl ∧ (∀ y c, cl.lookup y = some c → env.cells.lookup y = some c) ∧ ∀ y ∈ scope.names, y.2 = .free → (cl.lookup y.1).isSome = true := by
  obtain ⟨cl, e, a1, _, a3⟩ := closure_go env scope.names [] h (fun y c e => by simp at e)
  refine ⟨cl, ?_, a1, a3⟩
  have e2 : closureFor scope env = ((forIn scope.names [] (fun (x : Str × NameKind) (r : List (Str × Addr)) => if (x.2 == NameKind.free) = true then (do let a ← cellOf env x.1; pure (ForInStep.yield ((x.1, a) :: r))) else pure (ForInStep.yield r)) : Sem (List (Str × Addr))) >>= fun z => pure z) := rfl
  rw [e2, e]
  rfl
end PySem

/-! ### list comprehensions of one clause -/
namespace L2
open PySem PySem.Spec PyProof.Rows

/-- the block's context: no exception leaves it -/
def cxComp (X : Cx) (scope : Scope) (cl : List (Str × Addr)) (C : Addr) (N : List Str) (s : Shared) (H : Hp) (fp : List Addr) : Cx :=
  { X with N := N, s₀ := s, H₀ := H, env := compEnvC scope cl C X.env, outer := X.stack, ex := fp, fn := fun _ => false, pn := [], xe := fun _ _ => False }
/-- the names of the block: its own one, then those of the def that it reads (in the slots js there) -/
def jsOk (osc : Scope) (N : List Str) (scope : Scope) : List Nat → List Str → Bool
  | [], [] => true
  | j :: js, y :: ys => decide (N[j]? = some y) && decide (scope.names.lookup y = some .free) && decide (osc.names.lookup y = some .cell ∨ osc.names.lookup y = some .free) && jsOk osc N scope js ys
  | _, _ => false
def compOk (osc : Scope) (N : List Str) (scope : Scope) (x : Str) (js : List Nat) (fr : List Str) : Bool :=
  jsOk osc N scope js fr && decide (∀ y ∈ scope.names, y.2 = .free → osc.names.lookup y.1 = some .cell ∨ osc.names.lookup y.1 = some .free) && decide (∀ y ∈ scope.names, y.2 ≠ .cell) && decide (scope.kind = .function) &&
    decide (∀ y ∈ scope.names, y.2 = .local → scope.names.lookup y.1 = some .local) && decide (scope.names.lookup x = some .local) && decide (x :: fr).Nodup
structure CompOk (X : Cx) (scope : Scope) (x : Str) (js : List Nat) (fr : List Str) : Prop where
  js : jsOk X.env.scope X.N scope js fr = true
  free : ∀ y ∈ scope.names, y.2 = .free → X.env.kindOf y.1 = some .cell ∨ X.env.kindOf y.1 = some .free
  cell : ∀ y ∈ scope.names, y.2 ≠ .cell
  kind : scope.kind = .function
  names : ∀ y ∈ scope.names, y.2 = .local → scope.names.lookup y.1 = some .local
  own : scope.names.lookup x = some .local
  nd : (x :: fr).Nodup
theorem comp_ok {X : Cx} {scope : Scope} {x : Str} {js : List Nat} {fr : List Str} (osc : Scope) (N : List Str) (h : compOk osc N scope x js fr = true) (e1 : X.env.scope = osc := by rfl) (e2 : X.N = N := by rfl) : CompOk X scope x js fr := by
  subst e1; subst e2
  unfold compOk at h
  simp only [Bool.and_eq_true] at h
  obtain ⟨⟨⟨⟨⟨⟨a1, a2⟩, a3⟩, a4⟩, a5⟩, a6⟩, a7⟩ := h
  exact ⟨a1, of_decide_eq_true a2, of_decide_eq_true a3, of_decide_eq_true a4, of_decide_eq_true a5, of_decide_eq_true a6, of_decide_eq_true a7⟩
theorem jsOk_at {osc : Scope} {N : List Str} {scope : Scope} : ∀ {js : List Nat} {ys : List Str}, jsOk osc N scope js ys = true → ∀ (k : Nat) (y : Str), ys[k]? = some y →
    ∃ j, js[k]? = some j ∧ N[j]? = some y ∧ scope.names.lookup y = some .free ∧ (osc.names.lookup y = some .cell ∨ osc.names.lookup y = some .free)
  | [], [], _, k, y, e => by simp at e
  | j :: js, z :: ys, h, k, y, e => by
    have h : (decide (N[j]? = some z) && decide (scope.names.lookup z = some .free) && decide (osc.names.lookup z = some .cell ∨ osc.names.lookup z = some .free) && jsOk osc N scope js ys) = true := h
    simp only [Bool.and_eq_true] at h
    obtain ⟨⟨⟨b1, b2⟩, b3⟩, b4⟩ := h
    cases k with
    | zero =>
      simp at e; subst e
      exact ⟨j, rfl, of_decide_eq_true b1, of_decide_eq_true b2, of_decide_eq_true b3⟩
    | succ k => simpa using jsOk_at b4 k y (by simpa using e)
  | [], _ :: _, h, _, _, _ => by cases h
  | _ :: _, [], h, _, _, _ => by cases h
theorem jsOk_len {osc : Scope} {N : List Str} {scope : Scope} : ∀ {js : List Nat} {ys : List Str}, jsOk osc N scope js ys = true → js.length = ys.length
  | [], [], _ => rfl
  | j :: js, z :: ys, h => by
    have h : (_ && jsOk osc N scope js ys) = true := h
    rw [List.length_cons, List.length_cons, jsOk_len (Bool.and_eq_true_iff.mp h).2]
  | [], _ :: _, h => by cases h
  | _ :: _, [], h => by cases h

/-- the tests of a clause -/
def PTs (X : Cx) (ifs : List Expr) (t : TT) : Prop :=
  ∀ (pins : List (Addr × Obj)) (s : Shared) (σ : St) (H : Hp) (Q : Bool → Hp → Prop), Inv X pins σ H s → t σ H Q →
    wpAny (model X.prog X.w) X.A (forIn ifs true fun c r => if r = true then do let ok ← isTrue c X.env (eval c X.env); pure (ForInStep.yield ok) else pure (ForInStep.yield r)) (TP X pins σ Q) X.xe s
def tYes : TT := fun _ H Q => Q true H
theorem pts_nil {X : Cx} : PTs X [] tYes := fun _ _ _ H _ I h => wpAny_tests_nil ⟨H, I, h⟩
theorem thnF {α : Type} {t : Sem α} {Q Q' : α → Shared → Prop} {M : Model} {A : Around} {E : Value → Shared → Prop} {s : Shared} (h : wpAny M A t Q (fun _ _ => False) s) (hQ : ∀ a s, Q a s → Q' a s) : wpAny M A t Q' E s := wpAny_mono h hQ fun _ _ x => x.elim

theorem same_new {H : Hp} {p : Addr} (h : H p = none) (o : HO) : Same H (upd H p o) := fun b u q => by rw [upd_ne (ne_of_none q h)]; exact q
/-- a new list has been laid: whatever the heap is that holds it and all that was tracked -/
def NewL (H : Hp) (Q : VK) (ys : List V) : Prop := ∀ p H2, H p = none → H2 p = some (.lst ys) → Same H H2 → Q (.ref p) H2
theorem NewL.upd {H : Hp} {Q : VK} {ys : List V} (h : NewL H Q ys) : ∀ p, H p = none → Q (.ref p) (L2.upd H p (.lst ys)) := fun p hp => h p _ hp upd_same (same_new hp _)
/-- what the block's state holds of the def's names -/
def seen (js : List Nat) (σ : St) : St := js.map fun j => (σ[j]?).join

theorem comp_core {X : Cx} {x : Str} {px pos : Pos} {iter elt : Expr} {ifs : List Expr} {scope : Scope} {cl : List (Str × Addr)} {tc : TT} {te : TE} {js : List Nat} {fr : List Str} {J : It} {fp : List Addr} {it : Addr} {tn : Nat → Heap → Prop}
    {pins : List (Addr × Obj)} {σ : St} {H2 : Hp} {s₂ : Shared} {E : Value → Shared → Prop} {RR : Value → Addr → Result → Shared → Prop} {Fin : List V → Hp → Prop} {W : Nat → Nat → List V → Hp → Prop} {m0 : Nat}
    (hc : X.calm = true) (ok : CompOk X scope x js fr)
    (ht : ∀ C s H, PTs (cxComp X scope cl C (x :: fr) s H fp) ifs tc) (he : ∀ C s H, PE (cxComp X scope cl C (x :: fr) s H fp) elt te)
    (c1 : ∀ y c, cl.lookup y = some c → X.env.cells.lookup y = some c) (c2 : ∀ y ∈ scope.names, y.2 = .free → (cl.lookup y.1).isSome = true)
    (I : Inv X pins σ H2 s₂) (T : Turn X.prog X.w X.K (.Name x px) J fp it tn) (t0 : tn 0 s₂.heap) (f2 : ∀ b ∈ fp, FpOk X pins H2 b) (w0 : W 0 m0 [] H2)
    (step : ∀ i m ys H, W i m ys H → ys.length ≤ sizeLine ∧ ((J.stop i H ∧ Fin ys H) ∨ (J.go i H ∧ ∃ N : List V → Hp → Prop, (∀ ys' H', N ys' H' → ∃ m', m' < m ∧ W (i + 1) m' ys' H') ∧ ∀ v H', J.yld i H v H' → tc (some v :: seen js σ) H' fun b H2 =>
      if b = true then te (some v :: seen js σ) H2 fun u H3 => N (ys ++ [u]) H3 else N ys H2)))
    (fin : ∀ (D C : Addr) (s' : Shared) (ys : List V) (H' : Hp), Fin ys H' → H' D = none → Inv X pins σ (upd H' D (.lst ys)) s' → (∃ m, s'.heap.Ns C m) → s₂.heap.objs.size ≤ C → upd H' D (.lst ys) C = none → RR (.ref D) C (.ok .next) s') :
    wpAny (model X.prog X.w) X.A (newList []) (fun acc s₃ => wpAny (model X.prog X.w) X.A (newFunctionEnv scope X.env.globals cl [] X.env.qual none .none (some X.env)) (fun cenv s₄ =>
      codeAny (model X.prog X.w) X.A (.compStart (.ListComp elt [⟨.Name x px, iter, ifs, 0⟩] scope pos) 0 (.ref it) acc { cenv with scope := relabel scope X.env }) (RR acc cenv.locals) s₄) E s₃) E s₂ := by
  refine wpAny_newObj_type (wpAny_newFunctionEnv ok.cell (by intro y hy; simp at hy) (fun h₁ hns₁ hsb₁ => ?_) ok.kind)
  dsimp only at hns₁ hsb₁ ⊢
  generalize hG : s₂.heap.push { cls := .type "list", dict := none, data := .seq ([] : List Value).toArray } = G at hns₁ hsb₁ ⊢
  have hC : G.objs.size = s₂.heap.objs.size + 1 := by rw [← hG, Heap.size_push]
  generalize hD : s₂.heap.objs.size = D at hC ⊢
  rw [hC] at hns₁ hsb₁ ⊢
  have old : ∀ b o, s₂.heap.get? b = some o → h₁.get? b = some o := fun b o e => by
    have hb : b < D := hD ▸ Heap.lt_size e
    exact hsb₁.extBut b o (Nat.ne_of_lt (Nat.lt_succ_of_lt hb)) (Heap.get?_push_of_some _ (hG ▸ Heap.get?_push_of_some _ e))
  have oD : h₁.get? D = some { cls := .type "list", data := .seq #[] 0 } := by
    refine hsb₁.extBut D _ (Nat.ne_of_lt (Nat.lt_succ_self D)) (Heap.get?_push_of_some _ ?_)
    rw [← hG, ← hD]
    exact Heap.get?_push_size _ rfl
  have ltfp : ∀ b ∈ fp, b < D := fun b hb => by
    obtain ⟨o, e, _⟩ := T.obj 0 _ t0 b hb
    rw [← hD]; exact Heap.lt_size e
  have ltc : ∀ y c, cl.lookup y = some c → c < D := fun y c e => by
    obtain ⟨v, q⟩ := I.cell y c (c1 y c e)
    rw [← hD]; exact q.lt
  -- the block's context
  have X'ok : (cxComp X scope cl (D + 1) (x :: fr) s₂ H2 fp).Ok := by
    refine ⟨I.ok.mod, ok.kind, I.ok.glob, I.ok.blt, ?_, fun y z c a b => I.ok.inj y z c (c1 y c a) (c1 z c b), fun y hy => ?_, fun _ _ z => (nomatch z), I.ok.hd, I.ok.frames, .inl rfl, fun b hb => ⟨?_, fun y c e z => ?_⟩, I.bs, Nat.le_trans I.ok.bsz I.sz, fun b o e hb => ?_, fun b hb z => ?_, I.stack, I.stkFree⟩
    · show s₂.heap.objs.size ≤ D + 1
      rw [hD]; exact Nat.le_succ D
    · have hy : (scope.names.map (relab X.env)).lookup y = some .cell ∨ (scope.names.map (relab X.env)).lookup y = some .free := hy
      have hf : (y, NameKind.free) ∈ scope.names := by
        rw [relab_lookup] at hy
        cases q : scope.names.lookup y with
        | none => rw [q] at hy; rcases hy with z | z <;> cases z
        | some k =>
          rw [q] at hy
          have q' := PySem.mem_of_lookup q
          rcases relab_kind X.env y k with r | ⟨r, _⟩
          · rcases hy with z | z
            · have z : (relab X.env (y, k)).2 = .cell := Option.some.inj z
              rw [r] at z; subst z
              exact absurd rfl (ok.cell _ q')
            · have z : (relab X.env (y, k)).2 = .free := Option.some.inj z
              rw [r] at z; subst z
              exact q'
          · subst r; exact q'
      exact Option.isSome_iff_exists.mp (c2 _ hf rfl)
    · exact Nat.ne_of_lt (Nat.lt_succ_of_lt (ltfp b hb))
    · exact (f2 b hb).2.2.2.2.1 y c (c1 y c e) z
    · have hb : b ∈ fp := hb
      rcases (f2 b hb).2.2.2.1 with z | z
      · exact I.ok.noex b o e z
      · exact absurd (Nat.lt_of_lt_of_le (Heap.lt_size e) (Nat.le_trans I.ok.bsz z)) (Nat.lt_irrefl _)
    · have z : b ∈ frs X.stack := z
      rcases List.mem_cons.mp (I.stkSub b z) with q | q
      · exact (f2 b hb).2.1 q
      · exact (f2 b hb).2.2.1 q
  have pinD : ∀ {H' : Hp} {ob : Obj} {h : Heap}, h.get? D = some ob → H' D = none → (∀ v, ob.data ≠ .cell v) → ∀ p ∈ [(D, ob)], h.get? p.1 = some p.2 ∧ H' p.1 = none ∧ p.1 ≠ (cxComp X scope cl (D + 1) (x :: fr) s₂ H2 fp).env.locals ∧ p.1 ∉ (cxComp X scope cl (D + 1) (x :: fr) s₂ H2 fp).fs ∧ ∀ v, p.2.data ≠ .cell v := by
    intro H' ob h a1 a2 a3 p hp
    have e : p = (D, ob) := by simpa using hp
    subst e
    refine ⟨a1, a2, Nat.ne_of_lt (Nat.lt_succ_self D), fun z => ?_, a3⟩
    have z : D ∈ frs X.stack := z
    rcases List.mem_cons.mp (I.stkSub D z) with q | q
    · have lt := I.lt
      rw [← q, hD] at lt
      exact absurd lt (Nat.lt_irrefl _)
    · exact I.nofs (Nat.le_of_eq hD) q
  have I1 : ∀ tk, Inv (cxComp X scope cl (D + 1) (x :: fr) s₂ H2 fp) [(D, { cls := .type "list", data := .seq #[] 0 })] (none :: seen js σ) H2 { s₂ with heap := h₁, toks := tk } := by
    intro tk
    refine ⟨X'ok, rfl, I.bare, Un.kept old, ⟨_, hns₁, fun i y v e1 e2 e3 => ?_⟩, fun y c e => ?_, I.hok.fresh (by show s₂.heap.objs.size ≤ D + 1; rw [hD]; exact Nat.le_succ D), fun y c e => I.freeC y c (c1 y c e), fun p hp => ?_, I.hok.kept old, ?_⟩
    · cases i with
      | zero => cases e2
      | succ k =>
        have e1 : fr[k]? = some y := e1
        have e2 : (seen js σ)[k]? = some (some v) := e2
        obtain ⟨j, j1, j2, j3, j4⟩ := jsOk_at ok.js k y e1
        have e4 : σ[j]? = some (some v) := by
          unfold seen at e2
          rw [List.getElem?_map, j1] at e2
          have e2 : (σ[j]?).join = some v := Option.some.inj e2
          cases q : σ[j]? with
          | none => rw [q] at e2; cases e2
          | some z => rw [q] at e2; rw [show z = some v from e2]
        obtain ⟨m, hn, hl⟩ := I.loc
        have vis : Vis X.env.scope y := .inr j4
        obtain ⟨u, r, l⟩ := hl j y v j2 e4 vis
        refine ⟨u, r, .inr ⟨?_, ?_⟩⟩
        · show (scope.names.map (relab X.env)).lookup y = some .cell ∨ (scope.names.map (relab X.env)).lookup y = some .free
          rw [relab_lookup, j3]
          rcases relab_kind X.env y .free with q | ⟨_, q⟩
          · right; exact congrArg some q
          · left; exact congrArg some q
        · rcases l with ⟨l, _⟩ | ⟨_, c, e, z⟩
          · have l : X.env.scope.names.lookup y = some .local := l
            rcases j4 with q | q
            · rw [q] at l; cases l
            · rw [q] at l; cases l
          · obtain ⟨c', e'⟩ := Option.isSome_iff_exists.mp (c2 _ (PySem.mem_of_lookup j3) rfl)
            have : c' = c := Option.some.inj ((c1 y c' e').symm.trans e)
            subst this
            obtain ⟨o, z1, z2⟩ := z
            exact ⟨c', e', o, old _ _ z1, z2⟩
    · obtain ⟨v, o, z1, z2⟩ := I.cell y c (c1 y c e)
      exact ⟨v, o, old _ _ z1, z2⟩
    · exact pinD oD (I.hok.fresh (Nat.le_of_eq hD)) (fun v z => nomatch z) p hp
    · show _ = (x :: fr).length
      rw [List.length_cons, List.length_cons, ← jsOk_len ok.js]
      unfold seen
      rw [List.length_map]
  have fpok : ∀ {H' : Hp} {ob : Obj}, (∀ b ∈ fp, H' b = none) → ∀ b ∈ fp, FpOk (cxComp X scope cl (D + 1) (x :: fr) s₂ H2 fp) [(D, ob)] H' b := fun {H' ob} hn b hb =>
    ⟨hn b hb, (X'ok.exf b hb).1, X'ok.exfs b hb, .inl hb, (X'ok.exf b hb).2, fun p hp => by
      have e : p = (D, ob) := by simpa [cxComp] using hp
      subst e
      exact Nat.ne_of_gt (ltfp b hb)⟩
  have hx' : (cxComp X scope cl (D + 1) (x :: fr) s₂ H2 fp).env.scope.names.lookup x = some .local := by
    show (scope.names.map (relab X.env)).lookup x = some .local
    rw [relab_lookup, ok.own]
    rcases relab_kind X.env x .local with q | ⟨q, _⟩
    · exact congrArg some q
    · cases q
  have loop : ∀ tk, codeAny (model X.prog X.w) X.A (.compLoop (.ListComp elt [⟨.Name x px, iter, ifs, 0⟩] scope pos) 0 (.ref it) (.ref D) (compEnvC scope cl (D + 1) X.env)) (RR (.ref D) (D + 1)) { s₂ with heap := h₁, toks := tk } := by
    intro tk
    refine codeAny_compLoop_tests (fun n s' => ∃ i ys its k o H', Inv (cxComp X scope cl (D + 1) (x :: fr) s₂ H2 fp) [(D, { cls := .type "list", data := .seq (List.toArray its) k })] (o :: seen js σ) H' s' ∧ tn i s'.heap ∧ (∀ b ∈ fp, H' b = none) ∧ Vals ys its ∧ W i n ys H') ?_ m0
      ⟨0, [], [], 0, none, H2, I1 tk, T.keep _ _ _ t0 (fun b _ o e => old b o e), fun b hb => (f2 b hb).1, .nil, w0⟩
    rintro n s' ⟨i, ys, its, k, o, H', I', st, fr', vv, w⟩
    obtain ⟨hz, r⟩ := step i n ys H' w
    rcases r with ⟨stop, q⟩ | ⟨go, N, hN, q⟩
    · refine thn (T.done (cxComp X scope cl (D + 1) (x :: fr) s₂ H2 fp) rfl rfl rfl hc i _ s' _ H' _ I' (fpok fr') st stop) fun r s1 ⟨hr, I3⟩ => ?_
      subst hr
      obtain ⟨p1, p2, p3, p4, p5⟩ := I3.pin (D, _) (List.mem_append_right _ (List.mem_singleton.mpr rfl))
      obtain ⟨m, hn, _⟩ := I3.loc
      have oldne : ∀ b o, s₂.heap.get? b = some o → b ≠ D := fun b o e => by
        exact Nat.ne_of_lt (hD ▸ Heap.lt_size e)
      have neD : ∀ b o, H' b = some o → b ≠ D := fun b o e z => by rw [z, p2] at e; cases e
      have u : Un (frs X.stack) fp H2 H' s₂.heap s1.heap := I3.base
      have hok' : HOk X.prog X.w (upd H' D (.lst ys)) s1.heap := by
        intro b ob e
        by_cases hb : b = D
        · subst hb
          rw [upd_same] at e
          cases e
          exact ⟨hz, its, k, vv, p1⟩
        · rw [upd_ne hb] at e
          exact (I3.hok b ob e).stay (fun _ _ _ q => q) (fun c q => by rw [upd_ne (neD _ _ q)]; exact q) fun c xs q => by rw [upd_ne (neD _ _ q)]; exact q
      have u' : Un (frs X.stack) fp H2 (upd H' D (.lst ys)) s₂.heap s1.heap :=
        ⟨u.keep, u.slot, fun b ob e nn hx => by rw [upd_ne (oldne b ob e)]; exact u.free b ob e nn hx, u.there, fun b xs e => by rw [upd_ne (neD _ _ (u.tups b xs e))]; exact u.tups b xs e,
          fun b ob xs e => by rw [upd_ne (neD _ _ (u.frzs b ob xs e))]; exact u.frzs b ob xs e, fun b ps e => by
            obtain ⟨more, z⟩ := u.tbls b ps e
            exact ⟨more, by rw [upd_ne (neD _ _ z)]; exact z⟩⟩
      refine fin D (D + 1) s1 ys H' q p2 (I.call' I3.os u' hok' I3.bare fun b hb => ?_) ⟨m, hn⟩ (by rw [hD]; exact Nat.le_succ D) ?_
      · obtain ⟨_, g1, _, g3, g4, g5⟩ := f2 b hb
        exact ⟨g3, g1, g4, g5⟩
      · rw [upd_ne (Nat.ne_of_gt (Nat.lt_succ_self D))]
        exact I3.free
    · refine thn (T.item (cxComp X scope cl (D + 1) (x :: fr) s₂ H2 fp) rfl rfl rfl hc i _ s' _ H' _ I' (fpok fr') st go) fun r s1 ⟨u, hr, h4⟩ => ?_
      subst hr
      have h4' : wpAny (model X.prog X.w) X.A (pure () : Sem Unit) _ _ s1 := h4
      refine (show wpAny (model X.prog X.w) X.A (pure () >>= fun _ => assign (.Name x px) (compEnvC scope cl (D + 1) X.env) u) _ _ s1 from wpAny_bind (thn h4' fun _ s5 ⟨v, H5, I5, r5, y5, st5, fr5⟩ => ?_))
      have I5' := I5.pinned (fpok fr5) (T.obj _ _ st5)
      refine wpAny_assign_Name (store_ok (i := 0) I5' ok.nd rfl (.inl hx') r5 (fun s6 I6 => ?_) (.inr hx'))
      refine thnF (ht (D + 1) s₂ H2 _ s6 _ H5 _ I6 (q v H5 y5)) fun b s7 ⟨H7, I7, q7⟩ => ?_
      have keepT : ∀ {H8 : Hp} {σ8 : St} {s8 : Shared}, Inv (cxComp X scope cl (D + 1) (x :: fr) s₂ H2 fp) (([(D, { cls := .type "list", data := .seq (List.toArray its) k })] : List (Addr × Obj)) ++ pinsAt fp s5.heap) σ8 H8 s8 → tn (i + 1) s8.heap ∧ ∀ b ∈ fp, H8 b = none := fun {H8 σ8 s8} I8 =>
        ⟨T.keep _ _ _ st5 fun b hb o e => (I8.pin (b, o) (List.mem_append_right _ (List.mem_append_right _ (mem_pinsAt hb e)))).1, fun b hb => by
          obtain ⟨o, e, _⟩ := T.obj _ _ st5 b hb
          exact (I8.pin (b, o) (List.mem_append_right _ (List.mem_append_right _ (mem_pinsAt hb e)))).2.1⟩
      cases b with
      | false =>
        obtain ⟨m', hm, w'⟩ := hN _ _ q7
        exact ⟨m', hm, i + 1, ys, its, k, some v, H7, I7.unpinned, (keepT I7).1, (keepT I7).2, vv, w'⟩
      | true =>
        refine thnF (he (D + 1) s₂ H2 _ s7 _ H7 _ I7 q7) fun u8 s8 ⟨v8, H8, I8, r8, q8⟩ => ?_
        obtain ⟨m', hm, w'⟩ := hN _ _ q8
        obtain ⟨p1, p2, p3, p4, p5⟩ := I8.pin (D, _) (List.mem_append_right _ (List.mem_append_left _ (List.mem_singleton.mpr rfl)))
        have lz : its.toArray.size ≤ sizeLine := by
          have := vv.length
          simp only [List.size_toArray]
          omega
        refine wpAny_list_append_plain (hsz := lz) ⟨k, p1⟩ fun h₉ hl₉ hs₉ => ?_
        obtain ⟨k9, e9⟩ := hl₉
        have e9' : h₉.get? D = some { cls := .type "list", data := .seq (its ++ [u8]).toArray k9 } := by
          rw [e9]
          simp
        obtain ⟨t8, f8⟩ := keepT I8
        have I8n : Inv (cxComp X scope cl (D + 1) (x :: fr) s₂ H2 fp) [] (some v :: seen js σ) H8 s8 := I8.pins_of fun p hp => nomatch hp
        have I9 : Inv (cxComp X scope cl (D + 1) (x :: fr) s₂ H2 fp) [] (some v :: seen js σ) H8 { s8 with heap := h₉ } :=
          I8n.turned (it := D) (t' := s8.toks) (fun b ob hb e => (hs₉.2 b hb).trans e) p2 p3 (.inr (Nat.le_of_eq hD)) (fun y c e => Nat.ne_of_lt (ltc y c e)) fun p hp => nomatch hp
        refine ⟨m', hm, i + 1, ys ++ [v8], its ++ [u8], k9, some v, H8, I9.pins_of (pinD e9' p2 fun v z => nomatch z), T.keep _ _ _ t8 fun b hb ob e => (hs₉.2 b (Nat.ne_of_lt (ltfp b hb))).trans e, f8, vv.append (.cons r8 .nil), w'⟩
  have I1' := I1 s₂.toks
  exact codeAny_compStart_list (loop _) (T.self _ 0 _ _ _ (T.keep _ _ _ t0 (fun b _ o e => old b o e)) (loop _))

/-- [elt for x in iter if ..]: W holds ahead of turn i, of what was gathered and the heap -/
def tComp (wi : TI) (js : List Nat) (tc : TT) (te : TE) : TE := fun σ H Q => wi σ H fun J H1 =>
  ∃ W : Nat → Nat → List V → Hp → Prop, (∃ m, W 0 m [] H1) ∧ ∀ i m ys H, W i m ys H → ys.length ≤ sizeLine ∧ ((J.stop i H ∧ NewL H Q ys) ∨
    (J.go i H ∧ ∃ N : List V → Hp → Prop, (∀ ys' H', N ys' H' → ∃ m', m' < m ∧ W (i + 1) m' ys' H') ∧ ∀ v H', J.yld i H v H' → tc (some v :: seen js σ) H' fun b H2 =>
      if b = true then te (some v :: seen js σ) H2 fun u H3 => N (ys ++ [u]) H3 else N ys H2))
section
variable {X : Cx} {x y : Str} {px py pos spos : Pos} {iter elt : Expr} {ifs : List Expr} {scope : Scope} {wi : TI} {tc : TT} {te : TE} {js : List Nat} {fr : List Str}
theorem pe_comp (hc : X.calm = true) (ok : CompOk X scope x js fr) (hi : PI X (.Name x px) iter wi) (ht : ∀ cl C s H fp, PTs (cxComp X scope cl C (x :: fr) s H fp) ifs tc) (he : ∀ cl C s H fp, PE (cxComp X scope cl C (x :: fr) s H fp) elt te)
    (hs : ∀ z, foldedSetIterable iter X.env z = pure z := by intro _; rfl) : PE X (.ListComp elt [⟨.Name x px, iter, ifs, 0⟩] scope pos) (tComp wi js tc te) := by
  intro pins s σ H Q I h
  obtain ⟨cl, hcl, c1, c2⟩ := closure_ex (scope := scope) (env := X.env) (fun y hy hf => I.ok.has y.1 (ok.free y hy hf))
  rw [eval_ListComp]
  refine wpAny_comprehension_free (use := none) rfl hs hcl ok.kind ok.names (thn (hi pins s σ H _ I h) fun xv s₁ h₁ => thn h₁ fun itv s₂ h₂ => ?_)
  obtain ⟨it, fp, tn, J, H2, rfl, I2, T, st2, f2, W, ⟨m0, w0⟩, step⟩ := h₂
  refine comp_core (Fin := fun ys H' => NewL H' Q ys) (RR := fun acc C => compPost (model X.prog X.w) X.A X.xe none (EP X pins σ Q) acc C) hc ok (fun C s H => ht cl C s H fp) (fun C s H => he cl C s H fp) c1 c2 I2 T st2 f2 w0 step ?_
  intro D C s' ys H' q hD IV hn hC hCn
  obtain ⟨m, hn⟩ := hn
  refine ⟨m, hn, fun h' hs' => ⟨.ref D, _, ?_, rfl, q.upd D hD⟩⟩
  exact IV.turned (it := C) (t' := s'.toks) (fun b o hb e => (hs'.2 b hb).trans e) hCn (Nat.ne_of_gt (Nat.lt_of_lt_of_le I2.lt hC)) (.inr (Nat.le_trans I2.sz hC)) (fun y c e => by
    obtain ⟨v, z⟩ := I2.cell y c e
    exact Nat.ne_of_lt (Nat.lt_of_lt_of_le z.lt hC)) fun p hp => Nat.ne_of_lt (Nat.lt_of_lt_of_le (Heap.lt_size (I2.pin p hp).1) hC)
end

/-! ### the forms one uses: what is walked, what is gathered -/
def gath (lo : Int) (p : Int → Bool) (f : Int → V) (i : Nat) : List V := ((List.range i).filter fun k => p (lo + (k : Nat))).map fun k => f (lo + (k : Nat))
theorem gath_len (lo : Int) (p : Int → Bool) (f : Int → V) (i : Nat) : (gath lo p f i).length ≤ i := by
  unfold gath
  rw [List.length_map]
  exact Nat.le_trans (List.length_filter_le _ _) (by simp)
/-- over a range: p is the test, f what is gathered -/
theorem comp_range {lo : Int} {n : Nat} {js : List Nat} {tc : TT} {te : TE} {σ : St} {H : Hp} {Q : VK} (p : Int → Bool) (f : Int → V) (Pv : Nat → Hp → Prop) (hp : Pv 0 H) (hn : n ≤ sizeLine)
    (hs : ∀ i H, i < n → Pv i H → tc (some (.int (lo + (i : Nat))) :: seen js σ) H fun b H2 =>
      if b = true then te (some (.int (lo + (i : Nat))) :: seen js σ) H2 fun u H3 => gath lo p f i ++ [u] = gath lo p f (i + 1) ∧ Pv (i + 1) H3 else gath lo p f i = gath lo p f (i + 1) ∧ Pv (i + 1) H2)
    (hd : ∀ H, Pv n H → NewL H Q (gath lo p f n)) :
    ∃ W : Nat → Nat → List V → Hp → Prop, (∃ m, W 0 m [] H) ∧ ∀ i m ys H, W i m ys H → ys.length ≤ sizeLine ∧ (((Itr lo n).stop i H ∧ NewL H Q ys) ∨
    ((Itr lo n).go i H ∧ ∃ N : List V → Hp → Prop, (∀ ys' H', N ys' H' → ∃ m', m' < m ∧ W (i + 1) m' ys' H') ∧ ∀ v H', (Itr lo n).yld i H v H' → tc (some v :: seen js σ) H' fun b H2 =>
      if b = true then te (some v :: seen js σ) H2 fun u H3 => N (ys ++ [u]) H3 else N ys H2)) := by
  refine ⟨fun i m ys H => m = n - i ∧ i ≤ n ∧ ys = gath lo p f i ∧ Pv i H, ⟨n, by simp, Nat.zero_le _, rfl, hp⟩, ?_⟩
  rintro i m ys H ⟨rfl, hi, rfl, q⟩
  refine ⟨Nat.le_trans (Nat.le_trans (gath_len _ _ _ _) hi) hn, ?_⟩
  by_cases hlt : i < n
  · refine .inr ⟨hlt, fun ys' H' => ys' = gath lo p f (i + 1) ∧ Pv (i + 1) H', fun ys' H' ⟨e, q'⟩ => ⟨n - (i + 1), by omega, rfl, hlt, e, q'⟩, fun v H' y => ?_⟩
    obtain ⟨e, y⟩ := y
    subst e y
    exact hs i _ hlt q
  · have e : i = n := by omega
    subst e
    exact .inl ⟨Nat.le_refl _, hd H q⟩
def gathL (xs : List Int) (p : Int → Bool) (f : Int → V) (i : Nat) : List V := ((xs.take i).filter p).map f
end L2
namespace L2
open PySem PySem.Spec PyProof.Rows
section
variable {X : Cx} {pos : Pos}
/-! ### two lists of ints compared -/
def rEqI (K : PySem.W.Frag) : R2 := fun x y H Q => ∃ (a b : Addr) (ns ms : List Int), x = .ref a ∧ y = .ref b ∧ SqL K H a (ns.map V.int) ∧ SqL K H b (ms.map V.int) ∧ Q (.bl (decide (ns = ms))) H
def rNeI (K : PySem.W.Frag) : R2 := fun x y H Q => ∃ (a b : Addr) (ns ms : List Int), x = .ref a ∧ y = .ref b ∧ SqL K H a (ns.map V.int) ∧ SqL K H b (ms.map V.int) ∧ Q (.bl (!decide (ns = ms))) H
/-! ### isinstance(x, a built-in type) -/
def rIsi (K : PySem.W.Frag) : List V → Hp → VK → Prop := fun xs H Q => ∃ x c t b, xs = [x, .ty c] ∧ TyOf K H x t ∧ PySem.W.kitOne K t (.type c) = some b ∧ Q (.bl b) H
/-! ### a, b = a list of that length -/
def gLst (K : PySem.W.Frag) (n : Nat) (t : TGs) : TG := fun v σ H Q => ∃ a xs, v = .ref a ∧ SqL K H a xs ∧ xs.length = n ∧ t xs σ H Q
end
end L2
namespace L2
open PySem PySem.Spec PyProof.Rows
/-! ### a def, a method, a class with its promise: all that a caller needs -/
structure DefOk (P : Program) (w : World) (K : PySem.W.Frag) (mg : Str → Option Value) (base : Heap) (x : Str) (k : Nat) (ps : List Str) (sp : Sp) : Prop where
  ex : ∃ f fd, FnOk P w K mg base CX0 k f fd ps sp ∧ mg x = some (.ref f) ∧ PySem.W.keepIn K (.ref f) = true ∧ Binds K fd ps []
structure MethOk (P : Program) (w : World) (K : PySem.W.Frag) (mg : Str → Option Value) (base : Heap) (C : Addr) (m : Str) (k : Nat) (ps : List Str) (sp : Sp) : Prop where
  cl : Cls K C
  ex : ∃ f fd, FnOk P w K mg base CX0 k f fd ps sp ∧ Meth K C m f ∧ Binds K fd ps []
structure MakeOk (P : Program) (w : World) (K : PySem.W.Frag) (mg : Str → Option Value) (base : Heap) (x : Str) (C : Addr) (k : Nat) (ps : List Str) (sp : Sp) : Prop where
  ex : ∃ f fd, FnOk P w K mg base CX0 k f fd ps sp ∧ Mk K C f ∧ mg x = some (.ref C) ∧ Binds K fd ps []
section
variable {X : Cx} {C : Addr} {k : Nat} {ps : List Str} {sp : Sp} {x m : Str} {p pos apos : Pos} {e o : Expr} {es : List Expr} {ta : TE} {t : TA}
theorem pe_callD (D : DefOk X.prog X.w X.K X.mg X.base x k ps sp) (hr : Room k X.A) (hg : Gl X x) (ha : PA X (e :: es) t) (hdb : (x == ("__debug__" : Str)) = false := by decide)
    (he : starEach (e :: es) X.env = (false, eval e X.env) :: starEach es X.env := by rfl) (hpl : (backTo pos (starEach es X.env)).any (·.1) = false := by rfl) : PE X (.Call (.Name x p) (e :: es) [] pos) (tCall sp [] E0 t) := by
  obtain ⟨f, fd, a, b, c, d⟩ := D.ex
  exact pe_call a hr hg b c d .nil pass0 ha hdb he hpl
/-- C(..), the heap forgotten but for what it holds -/
def tMakeS (C : Addr) (sp : Sp) (t : TA) : TE := fun σ H Q => t σ H fun vs H1 => ∀ x dx H2, H1 x = none → H2 x = some (.ins C dx []) → Same H1 H2 → sp (.ref x :: vs) H2 (fun v H3 => v = .non ∧ Q (.ref x) H3) E0
/-- [a, b, ..] -/
def tLstS (t : TA) : TE := fun σ H Q => t σ H fun xs H1 => xs.length ≤ sizeLine ∧ NewL H1 Q xs
theorem pe_lstS (h : PA X es t) : PE X (.List es pos) (tLstS t) := by
  intro pins s σ H Q I hq
  refine wpAny_List_spliced (thn (h pos pins s σ H _ I hq) fun us s1 ⟨xs, H1, I1, r, z, q⟩ => ⟨by rw [← r.length]; exact z, ?_⟩)
  refine ⟨.ref s1.heap.objs.size, _, I1.laid (t' := s1.toks) (fun b u e => Heap.get?_push_of_some _ e) (Nat.le_refl _) ?_, rfl, q.upd _ (I1.hok.fresh (Nat.le_refl _))⟩
  exact ⟨z, us, 0, r, Heap.get?_push_size _ rfl⟩
def rSlLS (K : PySem.W.Frag) : V → Option Int → Option Int → Hp → VK → Prop := fun x lo hi H Q => ∃ a xs, x = .ref a ∧ SqL K H a xs ∧ NewL H Q (cutV xs lo hi)
def rListOfS (K : PySem.W.Frag) : List V → Hp → VK → Prop := fun xs H Q => ∃ p ys, xs = [.ref p] ∧ SqL K H p ys ∧ NewL H Q ys
def rAppendS : V → List V → Hp → VK → Prop := fun x vs H Q => ∃ l xs y, x = .ref l ∧ vs = [y] ∧ H l = some (.lst xs) ∧ xs.length < sizeLine ∧ ∀ H2, H2 l = some (.lst (xs ++ [y])) → (∀ b o, b ≠ l → H b = some o → H2 b = some o) → Q .non H2
def rSetLS : V → V → V → Hp → (Hp → Prop) → Prop := fun o i v H Q => ∃ p xs k j, o = .ref p ∧ i = .int k ∧ H p = some (.lst xs) ∧ ixN xs.length k = some j ∧ ∀ H2, H2 p = some (.lst (xs.set j v)) → (∀ b o, b ≠ p → H b = some o → H2 b = some o) → Q H2
/-- a display of written ints, whatever their number -/
inductive AllInts : List Expr → List Int → Prop
  | nil : AllInts [] []
  | cons {i : Int} {j : Nat} {pos : Pos} {es : List Expr} {is : List Int} (h : AllInts es is) : AllInts (.Constant (.int i) j pos :: es) (i :: is)
def tInts (is : List Int) : TA := fun _ H Q => Q (is.map V.int) H
theorem pa_ints {es : List Expr} {is : List Int} (h : AllInts es is) : PA X es (tInts is) := by
  induction h with
  | nil => exact pa_nil
  | @cons i j ps es is _ ih =>
    intro pos pins s σ H Q I hq
    exact pa_cons (te := tC (.int i)) (t := tInts is) pe_int ih rfl pos pins s σ H Q I hq
/-- a built-in type as a value -/
theorem pe_ty {n : String} (hg : Gl X x) (hm : X.mg x = none) (hv : bootBuiltins x = some (.type n)) (hn : x ≠ "__name__" := by decide) (hd : (x == ("__debug__" : Str)) = false := by decide) : PE X (.Name x pos) (tC (.ty n)) := pe_bltn hg hm hv rfl hn hd
end
/-- an int constant of the module -/
theorem pe_globI {X : Cx} {x : Str} {i : Int} {tk : Tok} {pos : Pos} (hg : Gl X x) (hm : X.mg x = some (.int i tk)) (hd : (x == ("__debug__" : Str)) = false := by decide) : PE X (.Name x pos) (tC (.int i)) := pe_glob hg hm ⟨tk, rfl⟩ hd
theorem Same.but {H H1 H2 : Hp} {l : Addr} (a : Same H H1) (hl : H l = none) (h : ∀ b o, b ≠ l → H1 b = some o → H2 b = some o) : Same H H2 := fun b o e => h b o (ne_of_none e hl) (a b o e)
/-! ### reading -/
theorem small {n : Nat} (h : n ≤ 1000) : n ≤ sizeLine := Nat.le_of_lt (small1000 h)
end L2
namespace L2
open PySem PySem.Spec PyProof.Rows
/-! ### the judgements as structures: nothing unfolds them; the same rules -/
structure JE (X : Cx) (e : Expr) (t : TE) : Prop where
  h : PE X e t
structure JT (X : Cx) (e : Expr) (t : TT) : Prop where
  h : PT X e t
structure JA (X : Cx) (es : List Expr) (t : TA) : Prop where
  h : PA X es t
structure JS (X : Cx) (st : Stmt) (t : TS) : Prop where
  h : PS X st t
structure JSs (X : Cx) (st : List Stmt) (t : TS) : Prop where
  h : PSs X st t
structure JW (X : Cx) (e : Expr) (t : TT) : Prop where
  h : PW X e t
structure JI (X : Cx) (tg iter : Expr) (wi : TI) : Prop where
  h : PI X tg iter wi
structure JG (X : Cx) (tg : Expr) (t : TG) : Prop where
  h : PG X tg t
structure JGs (X : Cx) (ts : List Expr) (t : TGs) : Prop where
  h : PGs X ts t
structure JTs (X : Cx) (ifs : List Expr) (t : TT) : Prop where
  h : PTs X ifs t
structure JO (X : Cx) (e : Option Expr) (t : TO) : Prop where
  h : PO X e t
section
variable {X : Cx}
theorem jv (i : Nat) {x : Str} {pos : Pos} (hN : X.N[i]? = some x := by rfl) (hv : Vis X.env.scope x := by first | exact Or.inl rfl | exact Or.inr (Or.inl rfl) | exact Or.inr (Or.inr rfl)) (hd : (x == ("__debug__" : Str)) = false := by decide) (hcd : (x == ("__classdict__" : Str)) = false := by decide) : JE X (.Name x pos) (tVar i) := ⟨pv i hN hv hd hcd⟩
end
section
variable {X : Cx}
theorem je_int {i j pos} : JE X (.Constant (.int i) j pos) (tC (.int i)) := ⟨pe_int⟩
end
section
variable {X : Cx}
theorem je_bl {b j pos} : JE X (.Constant (.bool b) j pos) (tC (.bl b)) := ⟨pe_bl⟩
end
section
variable {X : Cx}
end
section
variable {X : Cx}
theorem je_str {x j pos} : JE X (.Constant (.str x) j pos) (tC (.str x)) := ⟨pe_str⟩
end
section
variable {X : Cx} {a b c : Expr} {ta tb tc : TE} {pos : Pos}
theorem je_op {op : Operator} {r : R2} (ho : OpR X (binaryOp op) r) (ha : JE X a ta) (hb : JE X b tb) : JE X (.BinOp a op b pos) (tOp r ta tb) := ⟨pe_op ho ha.h hb.h⟩
end
section
variable {X : Cx} {a b c : Expr} {ta tb tc : TE} {pos : Pos}
theorem je_un {op : UnaryOp} {r : V → Hp → VK → Prop} (ho : UnR X (unaryOp op) r) (ha : JE X a ta) : JE X (.UnaryOp op a pos) (tUn r ta) := ⟨pe_un ho ha.h⟩
end
section
variable {X : Cx} {a b c : Expr} {ta tb tc : TE} {pos : Pos}
theorem je_cmpR {op : CmpOp} {r : R2} (ho : OpR X (compareOp op) r) (ha : JE X a ta) (hb : JE X b tb) (hm : behindInMarks op b = false) : JE X (.Compare a [op] [b] pos) (tOp r ta tb) := ⟨pe_cmpR ho ha.h hb.h hm⟩
end
section
variable {X : Cx} {a b c : Expr} {ta tb tc : TE} {pos : Pos}
end
section
variable {X : Cx}
variable {a b : Expr} {ta tb : TE} {pos : Pos}
variable {tA tB' : TT} {rest : List Expr}
end
section
variable {X : Cx}
variable {a b : Expr} {ta tb : TE} {pos : Pos}
variable {tA tB' : TT} {rest : List Expr}
theorem je_or (ha : JE X a ta) (hb : JE X (.BoolOp .Or (b :: rest) pos) tb) : JE X (.BoolOp .Or (a :: b :: rest) pos) (tOrV ta tb) := ⟨pe_or ha.h hb.h⟩
end
section
variable {X : Cx}
variable {a b : Expr} {ta tb : TE} {pos : Pos}
variable {tA tB' : TT} {rest : List Expr}
theorem je_one {op} {t : TE} (h : JE X a t) : JE X (.BoolOp op [a] pos) t := ⟨pe_one h.h⟩
end
section
variable {X : Cx}
variable {a b : Expr} {ta tb : TE} {pos : Pos}
variable {tA tB' : TT} {rest : List Expr}
end
section
variable {X : Cx}
variable {a b : Expr} {ta tb : TE} {pos : Pos}
variable {tA tB' : TT} {rest : List Expr}
theorem je_ifExp {c : Expr} (hc : JT X c tA) (ha : JE X a ta) (hb : JE X b tb) : JE X (.IfExp c a b pos) (tIf tA ta tb) := ⟨pe_ifExp hc.h ha.h hb.h⟩
end
section
variable {X : Cx} {o e value : Expr} {f : Str} {pos pos' tpos : Pos} {ta tv : TE}
theorem je_fld (he : JE X e ta) (hb : attributeBase e f X.env (eval e X.env) = eval e X.env) : JE X (.Attribute e f pos) (tFld X.K ta f) := ⟨pe_fld he.h hb⟩
end
section
variable {X : Cx} {a b : Expr} {ta tb : TE} {pos : Pos}
theorem je_ix {r : R2} (hr : IxR X r) (ha : JE X a ta) (hb : JE X b tb) (hs : PlainIx b) : JE X (.Subscript a b pos) (tOp r ta tb) := ⟨pe_ix hr ha.h hb.h hs⟩
end
section
variable {X : Cx} {e : Expr} {te : TE} {lo hi : Option Expr} {tl th : TO} {pos p2 : Pos}
end
section
variable {X : Cx} {e : Expr} {es : List Expr} {te : TE} {t : TA} {pos : Pos}
theorem je_tup {x1} (h : JA X es t) : JE X (.Tuple es x1 pos) (tTup t) := ⟨pe_tup h.h⟩
end
section
variable {X : Cx} {C : Addr} {k : Nat} {ps : List Str} {sp : Sp} {x m : Str} {p pos apos : Pos} {e o : Expr} {es : List Expr} {ta : TE} {t : TA}
theorem je_lstS (h : JA X es t) : JE X (.List es pos) (tLstS t) := ⟨pe_lstS h.h⟩
end
section
variable {X : Cx} {x y : Str} {px py pos spos : Pos} {iter elt : Expr} {ifs : List Expr} {scope : Scope} {wi : TI} {tc : TT} {te : TE} {js : List Nat} {fr : List Str}
theorem je_comp (hc : X.calm = true) (ok : CompOk X scope x js fr) (hi : JI X (.Name x px) iter wi) (ht : ∀ cl C s H fp, JTs (cxComp X scope cl C (x :: fr) s H fp) ifs tc) (he : ∀ cl C s H fp, JE (cxComp X scope cl C (x :: fr) s H fp) elt te) (hs : ∀ z, foldedSetIterable iter X.env z = pure z := by intro _; rfl) : JE X (.ListComp elt [⟨.Name x px, iter, ifs, 0⟩] scope pos) (tComp wi js tc te) := ⟨pe_comp hc ok hi.h (fun cl C s H fp => (ht cl C s H fp).h) (fun cl C s H fp => (he cl C s H fp).h) hs⟩
end
section
variable {X : Cx} {C : Addr} {k : Nat} {ps : List Str} {sp : Sp} {x m : Str} {p pos apos : Pos} {e o : Expr} {es : List Expr} {ta : TE} {t : TA}
theorem je_callD (D : DefOk X.prog X.w X.K X.mg X.base x k ps sp) (hr : Room k X.A) (hg : Gl X x) (ha : JA X (e :: es) t) (hdb : (x == ("__debug__" : Str)) = false := by decide) (he : starEach (e :: es) X.env = (false, eval e X.env) :: starEach es X.env := by rfl) (hpl : (backTo pos (starEach es X.env)).any (·.1) = false := by rfl) : JE X (.Call (.Name x p) (e :: es) [] pos) (tCall sp [] E0 t) := ⟨pe_callD D hr hg ha.h hdb he hpl⟩
end
section
variable {X : Cx} {C : Addr} {k : Nat} {ps : List Str} {sp : Sp} {x m : Str} {p pos apos : Pos} {e o : Expr} {es : List Expr} {ta : TE} {t : TA}
end
section
variable {X : Cx} {C : Addr} {k : Nat} {ps : List Str} {sp : Sp} {x m : Str} {p pos apos : Pos} {e o : Expr} {es : List Expr} {ta : TE} {t : TA}
end
section
variable {X : Cx} {x : Str} {p pos : Pos} {e : Expr} {es : List Expr} {t : TA} {id T : String} {r : List V → Hp → VK → Prop}
theorem je_callB (hc : CallR X (.builtin id) r) (hg : Gl X x) (hm : X.mg x = none) (hv : bootBuiltins x = some (.builtin id)) (ha : JA X (e :: es) t) (hn : x ≠ "__name__" := by decide) (hdb : (x == ("__debug__" : Str)) = false := by decide) (he : starEach (e :: es) X.env = (false, eval e X.env) :: starEach es X.env := by rfl) (hpl : (backTo pos (starEach es X.env)).any (·.1) = false := by rfl) : JE X (.Call (.Name x p) (e :: es) [] pos) (tCB r t) := ⟨pe_callB hc hg hm hv ha.h hn hdb he hpl⟩
end
section
variable {X : Cx} {x : Str} {p pos : Pos} {e : Expr} {es : List Expr} {t : TA} {id T : String} {r : List V → Hp → VK → Prop}
theorem je_callTy (hc : CallR X (.type T) r) (hg : Gl X x) (hm : X.mg x = none) (hv : bootBuiltins x = some (.type T)) (ha : JA X (e :: es) t) (hn : x ≠ "__name__" := by decide) (hdb : (x == ("__debug__" : Str)) = false := by decide) (he : starEach (e :: es) X.env = (false, eval e X.env) :: starEach es X.env := by rfl) (hpl : (backTo pos (starEach es X.env)).any (·.1) = false := by rfl) : JE X (.Call (.Name x p) (e :: es) [] pos) (tCB r t) := ⟨pe_callTy hc hg hm hv ha.h hn hdb he hpl⟩
end
section
variable {X : Cx} {a b : Expr} {ta tb : TE} {pos : Pos}
variable {o e : Expr} {es : List Expr} {to : TE} {t : TA} {name : Str} {apos cpos : Pos} {T id : String} {r : V → List V → Hp → VK → Prop}
theorem je_bm (pa : PlainAttrs T) (slot : Slot T name id) (hty : typeOf (.builtin id) = pure (.type "method_descriptor")) (hm : MtR X id r) (ho : JE X o to) (ha : JA X (e :: es) t) (hbase : attributeBase o name X.env (eval o X.env) = eval o X.env := by rfl) (hfew : ((backTo cpos (starEach (e :: es) X.env)).all (fun x => !x.1) && (backToKw cpos (keywordEach [] X.env)).all (fun x => x.1.isSome)
         && decide ((e :: es).length + ([] : List Keyword).length + (if ([] : List Keyword).isEmpty then 0 else 1) < 30)) = true := by rfl) (hline : (apos.endLine == cpos.line) = true := by rfl) (hs : starEach (e :: es) X.env = (false, eval e X.env) :: starEach es X.env := by rfl) (hplain : (backTo cpos (starEach es X.env)).any (·.1) = false := by rfl) : JE X (.Call (.Attribute o name apos) (e :: es) [] cpos) (tBM X.K T r to t) := ⟨pe_bm pa slot hty hm ho.h ha.h hbase hfew hline hs hplain⟩
end
section
variable {X : Cx} {a b : Expr} {ta tb : TE} {pos : Pos}
variable {o e : Expr} {es : List Expr} {to : TE} {t : TA} {name : Str} {apos cpos : Pos} {T id : String} {r : V → List V → Hp → VK → Prop}
end
section
theorem je_globI {X : Cx} {x : Str} {i : Int} {tk : Tok} {pos : Pos} (hg : Gl X x) (hm : X.mg x = some (.int i tk)) (hd : (x == ("__debug__" : Str)) = false := by decide) : JE X (.Name x pos) (tC (.int i)) := ⟨pe_globI hg hm hd⟩
end
section
variable {X : Cx} {C : Addr} {k : Nat} {ps : List Str} {sp : Sp} {x m : Str} {p pos apos : Pos} {e o : Expr} {es : List Expr} {ta : TE} {t : TA}
theorem je_ty {n : String} (hg : Gl X x) (hm : X.mg x = none) (hv : bootBuiltins x = some (.type n)) (hn : x ≠ "__name__" := by decide) (hd : (x == ("__debug__" : Str)) = false := by decide) : JE X (.Name x pos) (tC (.ty n)) := ⟨pe_ty hg hm hv hn hd⟩
end
section
variable {X : Cx} {a b c : Expr} {ta tb tc : TE} {pos : Pos}
theorem jt_cmpR {op : CmpOp} {r : R2} (ho : OpR X (compareOp op) r) (ha : JE X a ta) (hb : JE X b tb) (hm : behindInMarks op b = false) : JT X (.Compare a [op] [b] pos) (tTest (tOp r ta tb)) := ⟨pt_cmpR ho ha.h hb.h hm⟩
end
section
variable {X : Cx} {a b c : Expr} {ta tb tc : TE} {pos : Pos}
end
section
variable {X : Cx}
variable {a b : Expr} {ta tb : TE} {pos : Pos}
theorem jt_val {e : Expr} {t : TE} (h : JE X e t) (he : ∀ whole, isTrue e X.env whole = (do let v ← whole; standAt e.pos; holding [v] (truthy v)) := by intro _; rfl) : JT X e (tB t) := ⟨pt_val h.h he⟩
end
section
variable {X : Cx}
variable {a b : Expr} {ta tb : TE} {pos : Pos}
variable {tA tB' : TT} {rest : List Expr}
theorem jt_not (ha : JT X a tA) : JT X (.UnaryOp .Not a pos) (tNot tA) := ⟨pt_not ha.h⟩
end
section
theorem jw_pt {X : Cx} {e : Expr} {t : TT} (h : JW X e t) : JT X e t := ⟨PW.pt h.h⟩
end
section
variable {X : Cx}
variable {a b : Expr} {ta tb : TE} {pos : Pos}
variable {tA tB' : TT} {rest : List Expr}
end
section
variable {X : Cx}
variable {a b : Expr} {ta tb : TE} {pos : Pos}
variable {tA tB' : TT} {rest : List Expr}
theorem jw_or (ha : JT X a tA) (hb : JW X (.BoolOp .Or (b :: rest) pos) tB') : JW X (.BoolOp .Or (a :: b :: rest) pos) (tOr tA tB') := ⟨pw_or ha.h hb.h⟩
end
section
variable {X : Cx}
variable {a b : Expr} {ta tb : TE} {pos : Pos}
variable {tA tB' : TT} {rest : List Expr}
end
section
variable {X : Cx}
variable {a b : Expr} {ta tb : TE} {pos : Pos}
variable {tA tB' : TT} {rest : List Expr}
theorem jw_or1 (ha : JT X a tA) : JW X (.BoolOp .Or [a] pos) tA := ⟨pw_or1 ha.h⟩
end
section
variable {X : Cx} {e : Expr} {es : List Expr} {te : TE} {t : TA} {pos : Pos}
theorem ja_nil  : JA X [] tNil := ⟨pa_nil⟩
end
section
variable {X : Cx} {e : Expr} {es : List Expr} {te : TE} {t : TA} {pos : Pos}
theorem ja_cons (ha : JE X e te) (hr : JA X es t) (hs : starEach (e :: es) X.env = (false, eval e X.env) :: starEach es X.env := by rfl) : JA X (e :: es) (tCons te t) := ⟨pa_cons ha.h hr.h hs⟩
end
section
variable {X : Cx} {C : Addr} {k : Nat} {ps : List Str} {sp : Sp} {x m : Str} {p pos apos : Pos} {e o : Expr} {es : List Expr} {ta : TE} {t : TA}
theorem ja_ints {es : List Expr} {is : List Int} (h : AllInts es is) : JA X es (tInts is) := ⟨pa_ints h⟩
end
section
variable {X : Cx} {e : Expr} {te : TE} {lo hi : Option Expr} {tl th : TO} {pos p2 : Pos}
end
section
variable {X : Cx} {e : Expr} {te : TE} {lo hi : Option Expr} {tl th : TO} {pos p2 : Pos}
end
section
variable {X : Cx} {tg : Expr}
theorem ji_list {l : Expr} {tl : TE} (hl : JE X l tl) : JI X tg l (iList X.K tl) := ⟨pi_list hl.h⟩
end
section
variable {X : Cx} {tg : Expr}
theorem ji_range1 {a : Expr} {ta : TA} {p pos : Pos} (hg : Gl X "range") (hm : X.mg "range" = none) (ha : JA X [a] ta) (hs : starEach [a] X.env = [(false, eval a X.env)] := by rfl) : JI X tg (.Call (.Name "range" p) [a] [] pos) (iRng1 ta) := ⟨pi_range1 hg hm ha.h hs⟩
end
section
variable {X : Cx} {tg : Expr}
end
section
variable {X : Cx} {tg : Expr}
end
section
variable {X : Cx} {pos : Pos}
theorem jg_name {i : Nat} {x : Str} (hN : X.N.Nodup) (hi : X.N[i]? = some x) (hx : Loc X.env.scope x) (hf : X.fn x = true ∨ X.env.scope.names.lookup x = some .local := by first | exact .inl rfl | exact .inr rfl | assumption) : JG X (.Name x pos) (gName i) := ⟨pg_name hN hi hx hf⟩
end
section
variable {X : Cx} {pos : Pos}
end
section
variable {X : Cx} {pos : Pos}
theorem jg_tup {es : List Expr} {k : Nat} {t : TGs} {n : Nat} (hc : X.calm = true) (h : JGs X es t) (hn : (assignEach es X.env).length = n := by rfl) (hst : (assignEach es X.env).findIdx? (·.1) = none := by rfl) : JG X (.Tuple es k pos) (gTup X.K n t) := ⟨pg_tup hc h.h hn hst⟩
end
section
variable {X : Cx} {pos : Pos}
end
section
variable {X : Cx} {pos : Pos}
theorem jgs_nil  : JGs X [] gNil := ⟨pgs_nil⟩
end
section
variable {X : Cx} {pos : Pos}
theorem jgs_cons {e : Expr} {es : List Expr} {t : TG} {u : TGs} (h1 : JG X e t) (h2 : JGs X es u) (hs : (assignEach (e :: es) X.env).map (·.2) = assign e X.env :: (assignEach es X.env).map (·.2) := by rfl) : JGs X (e :: es) (gCons t u) := ⟨pgs_cons h1.h h2.h hs⟩
end
section
theorem jts_nil {X : Cx} : JTs X [] tYes := ⟨pts_nil⟩
end
section
end
section
variable {X : Cx} {pos : Pos}
theorem js_set {i : Nat} {x : Str} {e : Expr} {te : TE} {pos' : Pos} (hN : X.N.Nodup) (hi : X.N[i]? = some x) (hx : Loc X.env.scope x) (he : JE X e te) (hs : swapsWith e (some (.Name x pos')) pos.line X.env = pure false := by rfl) (hf : X.fn x = true ∨ X.env.scope.names.lookup x = some .local := by first | exact .inl rfl | exact .inr rfl | assumption) : JS X (.Assign [.Name x pos'] e pos) (tAsg te (gName i)) := ⟨ps_set hN hi hx he.h hs hf⟩
end
section
variable {X : Cx} {x y : Str} {px py pos spos : Pos} {iter elt : Expr} {ifs : List Expr} {scope : Scope} {wi : TI} {tc : TT} {te : TE} {js : List Nat} {fr : List Str}
end
section
variable {X : Cx} {o e value : Expr} {f : Str} {pos pos' tpos : Pos} {ta tv : TE}
theorem js_fld (ha : JE X o ta) (hv : JE X value tv) (hs : swapsWith value (some (.Attribute o f pos')) pos.line X.env = pure false) : JS X (.Assign [.Attribute o f pos'] value pos) (sFld X.K ta tv f) := ⟨ps_fld ha.h hv.h hs⟩
end
section
variable {X : Cx} {pos : Pos}
end
section
variable {X : Cx} {pos : Pos}
theorem js_aug {i : Nat} {x : Str} {e : Expr} {te : TE} {op : Operator} {ti : TIp} {pos' : Pos} (hN : X.N.Nodup) (hi : X.N[i]? = some x) (hx : Loc X.env.scope x) (he : JE X e te) (ho : PIp X op ti) (hf : X.fn x = true ∨ X.env.scope.names.lookup x = some .local := by first | exact .inl rfl | exact .inr rfl | assumption) : JS X (.AugAssign (.Name x pos') op e pos) (tAug i te ti) := ⟨ps_aug hN hi hx he.h ho hf⟩
end
section
variable {X : Cx} {st : Stmt} {rest : List Stmt} {t u : TS} {e : Expr} {te : TE} {pos : Pos}
theorem js_if {c : Expr} {a b : List Stmt} {tc : TT} (hc : JT X c tc) (ha : JSs X a t) (hb : JSs X b u) : JS X (.If c a b pos) (tIfS tc t u) := ⟨ps_if hc.h ha.h hb.h⟩
end
section
variable {X : Cx} {pos : Pos}
theorem js_while {c : Expr} {body : List Stmt} {tc : TT} {tb : TS} (hp : PassesOwn (model X.prog X.w) X.A X.env X.xe) (hc : JT X c tc) (hb : JSs X body tb) : JS X (.While c body [] pos) (tWhile tc tb) := ⟨ps_while hp hc.h hb.h⟩
end
section
variable {X : Cx} {tg : Expr}
theorem js_for {iter : Expr} {body : List Stmt} {wi : TI} {g : TG} {tb : TS} {pos : Pos} (hp : PassesOwn (model X.prog X.w) X.A X.env X.xe) (hc : X.calm = true) (hi : JI X tg iter wi) (hg : JG X tg g) (hb : JSs X body tb) (hs : ∀ x, foldedSetIterable iter X.env x = pure x := by intro _; rfl) : JS X (.For tg iter body [] pos) (tFor wi g tb) := ⟨ps_for hp hc hi.h hg.h hb.h hs⟩
end
section
variable {X : Cx} {st : Stmt} {rest : List Stmt} {t u : TS} {e : Expr} {te : TE} {pos : Pos}
theorem js_ret (he : JE X e te) : JS X (.Return (some e) pos) (tRet te) := ⟨ps_ret he.h⟩
end
section
variable {X : Cx} {st : Stmt} {rest : List Stmt} {t u : TS} {e : Expr} {te : TE} {pos : Pos}
end
section
variable {X : Cx} {st : Stmt} {rest : List Stmt} {t u : TS} {e : Expr} {te : TE} {pos : Pos}
theorem js_expr (he : JE X e te) (hs : swapsWith e none pos.line X.env = pure false := by rfl) : JS X (.Expr e pos) (tDrop te) := ⟨ps_expr he.h hs⟩
end
section
variable {X : Cx} {st : Stmt} {rest : List Stmt} {t u : TS} {e : Expr} {te : TE} {pos : Pos}
end
section
variable {X : Cx} {st : Stmt} {rest : List Stmt} {t u : TS} {e : Expr} {te : TE} {pos : Pos}
end
section
variable {X : Cx} {st : Stmt} {rest : List Stmt} {t u : TS} {e : Expr} {te : TE} {pos : Pos}
end
section
variable {X : Cx} {st : Stmt} {rest : List Stmt} {t u : TS} {e : Expr} {te : TE} {pos : Pos}
end
section
variable {X : Cx} {st : Stmt} {rest : List Stmt} {t u : TS} {e : Expr} {te : TE} {pos : Pos}
theorem jss_nil  : JSs X [] tNext := ⟨pss_nil⟩
end
section
variable {X : Cx} {st : Stmt} {rest : List Stmt} {t u : TS} {e : Expr} {te : TE} {pos : Pos}
theorem jss_one (h1 : JS X st t) : JSs X [st] t := ⟨pss_one h1.h⟩
end
section
variable {X : Cx} {st : Stmt} {rest : List Stmt} {t u : TS} {e : Expr} {te : TE} {pos : Pos}
theorem jss_cons (h1 : JS X st t) (h2 : JSs X rest u) : JSs X (st :: rest) (tSeq t u) := ⟨pss_cons h1.h h2.h⟩
end
section
variable {X : Cx} {st : Stmt} {rest : List Stmt} {t u : TS} {e : Expr} {te : TE} {pos : Pos}
theorem jss_never {sts : List Stmt} : JSs X sts tNever := ⟨pss_never⟩
end
section
variable {P : Program} {w : World} {K : PySem.W.Frag} {mg : Str → Option Value} {base : Heap}
theorem Fun.okJ {x qual : Str} {st : Stmt} {f : Addr} {fd : FuncData} {N ps : List Str} {k : Nat} {sp : Sp} (F : Fun K x qual st f fd) (S : FnScope N ps (defScope st)) (len : ∀ vs H Q E, sp vs H Q E → vs.length = ps.length)
    (hbody : ∀ (cdv : Value) (A : Around) (outer : List Env) (s : Shared) (H : Hp) (vs : List V) (Q : VK) (E : XK), Room k (A.deeper (envOfC qual (defScope st) s.heap.objs.size f cdv)) → sp vs H Q E →
      ∃ t, JSs (cxOf CX0 P w K mg base N qual (defScope st) f cdv A outer s H E).nox (defBody st) t ∧ t { nx := fun _ H' => Q .non H', rt := Q } (start N vs) H) : FnOk P w K mg base CX0 (k + 1) f fd ps sp :=
  F.ok S len fun cdv A outer s H vs Q E hr h => let ⟨t, a, b⟩ := hbody cdv A outer s H vs Q E hr h; ⟨t, a.h, b⟩
end
end L2
namespace L2
open PySem PySem.Spec PyProof.Rows
section
variable {X : Cx}
/-! ### sorted of ints (below 64), set of ints and its len -/
def rSorted (K : PySem.W.Frag) : List V → Hp → VK → Prop := fun xs H Q => ∃ (p : Addr) (ns : List Int), xs = [.ref p] ∧ SqL K H p (ns.map V.int) ∧ ns.length < 64 ∧ ∀ ms : List Int, ms.Perm ns → ms.Pairwise (· ≤ ·) → NewL H Q (ms.map V.int)
def distinct (ns : List Int) : List Int := firstMet (fun i => ns.getD i 0) ns.length
def rSet (K : PySem.W.Frag) : List V → Hp → VK → Prop := fun xs H Q => ∃ (p : Addr) (ns : List Int), xs = [.ref p] ∧ SqL K H p (ns.map V.int) ∧ ns.length + 1 < 4096 ∧
  ∀ (a : Addr) (H2 : Hp) (S : Int → Bool), H a = none → H2 a = some (.set S (distinct ns).length) → Same H H2 → Q (.ref a) H2
theorem call_set_of (hc : X.calm = true) : CallR X (.type "set") (rSet X.K) := by
  intro pins s σ H xs us Q I r h
  obtain ⟨p, ns, rfl, hq, hb, q⟩ := h
  obtain ⟨u, rfl, rx⟩ := vals1 r
  cases rx
  obtain ⟨its, rv, pl, hz⟩ := I.list hq
  have hlen : ns.length = its.length := by rw [← rv.length, List.length_map]
  refine call_set_list (ns := ns) (I.ok.hd hc) pl.isList (by simpa using intsAre_of rv) (by show its.toArray.size + 1 < 4096; simp only [List.size_toArray]; omega) fun h' tk hs hk => ?_
  have hn : H s.heap.objs.size = none := I.hok.fresh (Nat.le_refl _)
  have es : its.toArray.size = ns.length := by simp only [List.size_toArray]; omega
  rw [es] at hs
  exact ⟨.ref s.heap.objs.size, _, I.laid (t' := tk) (o := .set (fun k' => (distinct ns).any fun x => x == k') (distinct ns).length) (fun b o e => hk b o (Heap.lt_size e) e) (Nat.le_refl _) hs, rfl, q _ _ _ hn upd_same (same_new hn _)⟩
def rLenSet : List V → Hp → VK → Prop := fun xs H Q => ∃ (p : Addr) (S : Int → Bool) (n : Nat), xs = [.ref p] ∧ H p = some (.set S n) ∧ n ≤ 4096 ∧ Q (.int n) H
theorem call_len_setS : CallR X (.builtin "len") rLenSet := by
  intro pins s σ H xs us Q I r h
  obtain ⟨p, S, n, rfl, hp, hn, q⟩ := h
  obtain ⟨u, rfl, rx⟩ := vals1 r
  cases rx
  have so : s.heap.SetOf (intKind X.prog X.w) p S n := I.hok p _ hp
  obtain ⟨o, es, ep, t, h1, h2, h3, _, _, h4, h5, rfl⟩ := so
  exact call_len_set h1 h2 h3 h5 (by omega) ⟨.int _, H, I.tok _, ⟨_, rfl⟩, q⟩
/-- an index, the text's part named apart (for a comprehension's block) -/
theorem ixK (K : PySem.W.Frag) (h : X.K = K) : IxR X (rIxL K) := by
  subst h
  exact ix_list
end
end L2
namespace L2
open PySem PySem.Spec PyProof.Rows
section
variable {X : Cx}
/-! ### sum of a list of ints -/
def rSum (K : PySem.W.Frag) : List V → Hp → VK → Prop := fun xs H Q => ∃ (p : Addr) (ns : List Int), xs = [.ref p] ∧ SqL K H p (ns.map V.int) ∧ PyProof.Rows.SumFits ns ∧ Q (.int ns.sum) H
end
end L2
namespace L2
open PySem PySem.Spec PyProof.Rows
section
variable {X : Cx} {tg : Expr}
/-! ### for x in reversed(a list) -/
def Itv (K : PySem.W.Frag) (a : Addr) (n : Nat) : It :=
  ⟨fun i H => ∃ xs, SqL K H a xs ∧ xs.length = n ∧ i < n, fun i H x H' => H' = H ∧ ∀ xs, SqL K H a xs → xs[n - 1 - i]? = some x, fun i _ => n ≤ i⟩
def iRev (K : PySem.W.Frag) (ta : TA) : TI := fun σ H R => ta σ H fun vs H1 => ∃ a xs, vs = [.ref a] ∧ SqL K H1 a xs ∧ R (Itv K a xs.length) H1
/-! ### list + list, list * int: what is new -/
def rCatS : R2 := fun x y H Q => ∃ l b xs zs, x = .ref l ∧ y = .ref b ∧ H l = some (.lst xs) ∧ H b = some (.lst zs) ∧ xs.length + zs.length ≤ sizeLine ∧ NewL H Q (xs ++ zs)
theorem op_catS : OpR X (binaryOp .Add) rCatS := fun pins s σ H x y v u Q I rx ry h =>
  op_cat pins s σ H x y v u Q I rx ry (let ⟨l, b, xs, zs, e1, e2, h1, h2, hz, q⟩ := h; ⟨l, b, xs, zs, e1, e2, h1, h2, hz, q.upd⟩)
def rRepS : R2 := fun x y H Q => ∃ l k xs, x = .ref l ∧ y = .int k ∧ H l = some (.lst xs) ∧ -(2 ^ 63) ≤ k ∧ k < 2 ^ 63 ∧ xs.length * k.toNat ≤ sizeLine ∧ NewL H Q (List.replicate k.toNat xs).flatten
/-! ### the text's part named apart (for a comprehension's block) -/
theorem ixtK (K : PySem.W.Frag) (h : X.K = K) : IxR X (rIxT K) := by
  subst h
  exact ix_tup
/-! ### a comprehension without a test, over a range -/
theorem gath_all (lo : Int) (f : Int → V) (n : Nat) : gath lo (fun _ => true) f n = (List.range n).map fun k => f (lo + (k : Nat)) := by
  unfold gath
  rw [List.filter_eq_self.mpr (fun _ _ => rfl)]
theorem mkS {F : Nat → V} {i : Nat} : (List.range i).map F ++ [F i] = (List.range (i + 1)).map F := by
  rw [List.range_succ, List.map_append]
  rfl
theorem comp_mk {lo : Int} {n : Nat} {js : List Nat} {te : TE} {σ : St} {H : Hp} {Q : VK} (F : Nat → V) (Pv : Nat → Hp → Prop) (hp : Pv 0 H) (hn : n ≤ sizeLine)
    (hs : ∀ i H, i < n → Pv i H → te (some (.int (lo + (i : Nat))) :: seen js σ) H fun u H3 => (List.range i).map F ++ [u] = (List.range (i + 1)).map F ∧ Pv (i + 1) H3)
    (hd : ∀ H, Pv n H → NewL H Q ((List.range n).map F)) :
    ∃ W : Nat → Nat → List V → Hp → Prop, (∃ m, W 0 m [] H) ∧ ∀ i m ys H, W i m ys H → ys.length ≤ sizeLine ∧ (((Itr lo n).stop i H ∧ NewL H Q ys) ∨
    ((Itr lo n).go i H ∧ ∃ N : List V → Hp → Prop, (∀ ys' H', N ys' H' → ∃ m', m' < m ∧ W (i + 1) m' ys' H') ∧ ∀ v H', (Itr lo n).yld i H v H' → tYes (some v :: seen js σ) H' fun b H2 =>
      if b = true then te (some v :: seen js σ) H2 fun u H3 => N (ys ++ [u]) H3 else N ys H2)) := by
  have e0 : ∀ i : Nat, gath lo (fun _ => true) (fun k => F (k - lo).toNat) i = (List.range i).map F := fun i => by
    rw [gath_all]
    refine List.map_congr_left fun k _ => ?_
    show F (lo + (k : Int) - lo).toNat = F k
    rw [show (lo + (k : Int) - lo).toNat = k by omega]
  refine comp_range (fun _ => true) (fun k => F (k - lo).toNat) Pv hp hn (fun i H hi p => ?_) (fun H p => ?_)
  · rw [e0 i, e0 (i + 1)]
    show (if true = true then te (some (V.int (lo + (i : Nat))) :: seen js σ) H fun u H3 => List.map F (List.range i) ++ [u] = List.map F (List.range (i + 1)) ∧ Pv (i + 1) H3 else List.map F (List.range i) = List.map F (List.range (i + 1)) ∧ Pv (i + 1) H)
    exact iteT (hs i H hi p)
  · rw [e0]
    exact hd H p
theorem range_ints (n : Nat) (F : Nat → Int) : (List.range n).map (fun i => V.int (F i)) = ((List.range n).map F).map V.int := by
  rw [List.map_map]
  rfl
end
end L2
namespace L2
open PySem PySem.Spec PyProof.Rows PySem.SeqAt
/-! ### lists of lists and of tuples compared: the same data -/
mutual
inductive DR (K : PySem.W.Frag) (H : Hp) : V → PyData → Prop
  | int (i : Int) : DR K H (.int i) (.int i)
  | lst {a : Addr} {xs : List V} {ds : List PyData} (h : SqL K H a xs) (r : DRs K H xs ds) : DR K H (.ref a) (.list ds)
  | tup {a : Addr} {xs : List V} {ds : List PyData} (h : SqT K H a xs) (r : DRs K H xs ds) : DR K H (.ref a) (.tuple ds)
inductive DRs (K : PySem.W.Frag) (H : Hp) : List V → List PyData → Prop
  | nil : DRs K H [] []
  | cons {x : V} {xs : List V} {d : PyData} {ds : List PyData} (h : DR K H x d) (r : DRs K H xs ds) : DRs K H (x :: xs) (d :: ds)
end
section
variable {X : Cx} {pins : List (Addr × Obj)} {s : Shared} {σ : St} {H : Hp}
mutual
theorem DR.reads (I : Inv X pins σ H s) : ∀ {x : V} {d : PyData}, DR X.K H x d → ∀ v, RelV x v → ∃ as, Reads s.heap v d as
  | _, _, .int i, v, r => by
    obtain ⟨t, rfl⟩ := r
    exact ⟨_, .int i t⟩
  | _, _, .lst h q, v, r => by
    cases r
    obtain ⟨its, rv, pl, _⟩ := I.list h
    obtain ⟨o, ho, hc, n, hd⟩ := pl.isList
    obtain ⟨as, ra⟩ := DRs.reads I q _ rv
    exact ⟨_, .list ho hc hd (by simpa using ra)⟩
  | _, _, .tup h q, v, r => by
    cases r
    obtain ⟨its, rv, pl, _⟩ := I.tuple h
    obtain ⟨o, ho, hc, n, hd⟩ := (show s.heap.IsTuple _ its.toArray from pl)
    obtain ⟨as, ra⟩ := DRs.reads I q _ rv
    exact ⟨_, .tuple ho hc hd (by simpa using ra)⟩
theorem DRs.reads (I : Inv X pins σ H s) : ∀ {xs : List V} {ds : List PyData}, DRs X.K H xs ds → ∀ vs, Vals xs vs → ∃ as, ReadsAll s.heap vs ds as
  | _, _, .nil, vs, r => by
    cases r
    exact ⟨_, .nil⟩
  | _, _, .cons h q, vs, r => by
    cases r with
    | cons r1 r2 =>
      obtain ⟨as, ra⟩ := DR.reads I h _ r1
      obtain ⟨bs, rb⟩ := DRs.reads I q _ r2
      exact ⟨_, .cons ra rb⟩
end
end
section
variable {X : Cx}
def rNeD (K : PySem.W.Frag) : R2 := fun x y H Q => ∃ d, DR K H x d ∧ DR K H y d ∧ shaped d = true ∧ Q (.bl false) H
end
end L2
namespace L2
open PySem PySem.Spec PyProof.Rows
/-! ### list comprehensions whose clause unpacks -/
structure CompOk2 (X : Cx) (scope : Scope) (js : List Nat) (fr : List Str) : Prop where
  js : jsOk X.env.scope X.N scope js fr = true
  free : ∀ y ∈ scope.names, y.2 = .free → X.env.kindOf y.1 = some .cell ∨ X.env.kindOf y.1 = some .free
  cell : ∀ y ∈ scope.names, y.2 ≠ .cell
  kind : scope.kind = .function
  names : ∀ y ∈ scope.names, y.2 = .local → scope.names.lookup y.1 = some .local
def compOk2 (osc : Scope) (N : List Str) (scope : Scope) (js : List Nat) (fr : List Str) : Bool :=
  jsOk osc N scope js fr && decide (∀ y ∈ scope.names, y.2 = .free → osc.names.lookup y.1 = some .cell ∨ osc.names.lookup y.1 = some .free) && decide (∀ y ∈ scope.names, y.2 ≠ .cell) && decide (scope.kind = .function) &&
    decide (∀ y ∈ scope.names, y.2 = .local → scope.names.lookup y.1 = some .local)
def tComp2 (wi : TI) (n : Nat) (js : List Nat) (g : TG) (tc : TT) (te : TE) : TE := fun σ H Q => wi σ H fun J H1 =>
  ∃ W : Nat → Nat → List V → Hp → Prop, (∃ m, W 0 m [] H1) ∧ ∀ i m ys H, W i m ys H → ys.length ≤ sizeLine ∧ ((J.stop i H ∧ NewL H Q ys) ∨
    (J.go i H ∧ ∃ N : List V → Hp → Prop, (∀ ys' H', N ys' H' → ∃ m', m' < m ∧ W (i + 1) m' ys' H') ∧ ∀ v H' τ, J.yld i H v H' → τ.length = n → g v (τ ++ seen js σ) H' fun σ6 H6 => ∃ τ', σ6 = τ' ++ seen js σ ∧ τ'.length = n ∧ tc σ6 H6 fun b H2 =>
      if b = true then te σ6 H2 fun u H3 => N (ys ++ [u]) H3 else N ys H2))
end L2
namespace L2
open PySem PySem.Spec PyProof.Rows
section
variable {X : Cx} {pins : List (Addr × Obj)} {σ : St} {H : Hp} {s : Shared} {h' : Heap}
end
section
variable {X : Cx}
/-! ### for x, y in zip(a list, a list) -/
def Itz (K : PySem.W.Frag) (a b : Addr) : It :=
  ⟨fun i H => ∃ xs ys x y, SqL K H a xs ∧ SqL K H b ys ∧ xs[i]? = some x ∧ ys[i]? = some y,
   fun i H v H' => ∃ T x y, v = .ref T ∧ H T = none ∧ (∀ xs, SqL K H a xs → xs[i]? = some x) ∧ (∀ ys, SqL K H b ys → ys[i]? = some y) ∧ H' T = some (.tup [x, y]) ∧ Same H H',
   fun i H => ∃ xs ys, SqL K H a xs ∧ SqL K H b ys ∧ (xs.length ≤ i ∨ ys.length ≤ i)⟩
def ZipAt (z TI TO i1 i2 a b : Addr) (i : Nat) (h : Heap) : Prop :=
  IsZip h z TI TO .none ∧ IsPair h TI (.ref i1) (.ref i2) ∧ (∃ p q, IsPair h TO p q) ∧ h.IsListIter i1 a i ∧ h.IsListIter i2 b i
def iZip (K : PySem.W.Frag) (ta : TA) : TI := fun σ H R => ta σ H fun vs H1 => ∃ a b xs ys, vs = [.ref a, .ref b] ∧ SqL K H1 a xs ∧ SqL K H1 b ys ∧ R (Itz K a b) H1
end
end L2
namespace L2
open PySem PySem.Spec PyProof.Rows
section
variable {X : Cx}
/-- over a list of any items, without a test -/
theorem comp_mkL {K : PySem.W.Frag} {a : Addr} {xs : List V} {js : List Nat} {te : TE} {σ : St} {H : Hp} {Q : VK} (F : Nat → V) (Pv : Nat → Hp → Prop) (hp : Pv 0 H) (hn : xs.length ≤ sizeLine)
    (hl : ∀ i H, i ≤ xs.length → Pv i H → SqL K H a xs)
    (hs : ∀ i v H, xs[i]? = some v → Pv i H → te (some v :: seen js σ) H fun u H3 => (List.range i).map F ++ [u] = (List.range (i + 1)).map F ∧ Pv (i + 1) H3)
    (hd : ∀ H, Pv xs.length H → NewL H Q ((List.range xs.length).map F)) :
    ∃ W : Nat → Nat → List V → Hp → Prop, (∃ m, W 0 m [] H) ∧ ∀ i m ys H, W i m ys H → ys.length ≤ sizeLine ∧ (((Itl K a).stop i H ∧ NewL H Q ys) ∨
    ((Itl K a).go i H ∧ ∃ N : List V → Hp → Prop, (∀ ys' H', N ys' H' → ∃ m', m' < m ∧ W (i + 1) m' ys' H') ∧ ∀ v H', (Itl K a).yld i H v H' → tYes (some v :: seen js σ) H' fun b H2 =>
      if b = true then te (some v :: seen js σ) H2 fun u H3 => N (ys ++ [u]) H3 else N ys H2)) := by
  refine ⟨fun i m zs H => m = xs.length - i ∧ i ≤ xs.length ∧ zs = (List.range i).map F ∧ Pv i H, ⟨xs.length, by simp, Nat.zero_le _, rfl, hp⟩, ?_⟩
  rintro i m zs H ⟨rfl, hi, rfl, p⟩
  have sq := hl i H hi p
  refine ⟨by rw [List.length_map, List.length_range]; omega, ?_⟩
  rcases Nat.lt_or_ge i xs.length with hlt | hge
  · have ex : xs[i]? = some (xs[i]'hlt) := List.getElem?_eq_getElem hlt
    refine .inr ⟨⟨_, _, sq, ex⟩, fun zs' H' => zs' = (List.range (i + 1)).map F ∧ Pv (i + 1) H', fun zs' H' ⟨e, q'⟩ => ⟨xs.length - (i + 1), by omega, rfl, hlt, e, q'⟩, ?_⟩
    rintro v H' ⟨rfl, hv⟩
    show (if true = true then te (some v :: seen js σ) H' fun u H3 => (List.range i).map F ++ [u] = (List.range (i + 1)).map F ∧ Pv (i + 1) H3 else (List.range i).map F = (List.range (i + 1)).map F ∧ Pv (i + 1) H')
    exact iteT (hs i v H' (hv xs sq) p)
  · have e : i = xs.length := by omega
    subst e
    exact .inl ⟨⟨_, sq, Nat.le_refl _⟩, hd H p⟩
end
end L2
namespace L2
open PySem PySem.Spec PyProof.Rows
section
variable {prog : Program} {w : World} {A : Around} {E : Value → Shared → Prop} {s : Shared}
/-! ### list(reversed(a list)) -/
end
section
variable {X : Cx} {e : Expr} {ta : TA} {p p' pos pos' : Pos}
def tLRev (K : PySem.W.Frag) (ta : TA) : TE := fun σ H Q => ta σ H fun vs H1 => ∃ a xs, vs = [.ref a] ∧ SqL K H1 a xs ∧ NewL H1 Q xs.reverse
end
end L2
set_option maxHeartbeats 4000000
namespace NT
/-- no number from 2 to below it goes into it -/
def Pr (p : Nat) : Prop := 2 ≤ p ∧ ∀ d, 2 ≤ d → d < p → p % d ≠ 0
def noPart (p : Nat) : Nat → Nat → Bool
  | 0, _ => true
  | f + 1, d => if d < p then (!(p % d == 0)) && noPart p f (d + 1) else true
def prB (p : Nat) : Bool := Nat.ble 2 p && noPart p p 2
/-- a^(p-1) leaves 1, for all a from 1 to below p -/
def ferm (p : Nat) : Nat → Bool
  | 0 => true
  | a + 1 => Nat.beq ((a + 1) ^ (p - 1) % p) 1 && ferm p a
theorem ferm_ok {p : Nat} : ∀ {n a : Nat}, ferm p n = true → 0 < a → a ≤ n → a ^ (p - 1) % p = 1
  | 0, a, _, h1, h2 => by omega
  | n + 1, a, h, h1, h2 => by
    unfold ferm at h
    rw [Bool.and_eq_true] at h
    by_cases e : a = n + 1
    · subst e; exact Nat.eq_of_beq_eq_true h.1
    · exact ferm_ok h.2 h1 (by omega)
/-- all primes to n -/
def allF : Nat → Bool
  | 0 => true
  | p + 1 => ((!prB (p + 1)) || ferm (p + 1) p) && allF p
theorem allF_997 : allF 997 = true := by decide +kernel
end NT
namespace NT
/-- Fermat for ints -/
theorem fermatI {p a : Nat} (h : a ^ (p - 1) % p = 1) : (a : Int) ^ (p - 1) % (p : Int) = 1 := by
  have : (((a ^ (p - 1) % p : Nat)) : Int) = 1 := by rw [h]; rfl
  rw [← this]; simp
end NT
namespace NT
def tab : List Nat := [2, 3, 5, 7, 11, 13, 17, 19, 23, 29, 31, 37, 41, 61, 97, 193, 257, 337, 577, 997]
end NT
namespace NT
theorem noPart_of (p : Nat) : ∀ f d, (∀ e, d ≤ e → e < p → p % e ≠ 0) → noPart p f d = true
  | 0, _, _ => rfl
  | f + 1, d, h => by
    unfold noPart
    by_cases hd : d < p
    · rw [if_pos hd, Bool.and_eq_true]
      refine ⟨?_, noPart_of p f (d + 1) fun e h1 h2 => h e (by omega) h2⟩
      have := h d (Nat.le_refl _) hd
      simpa using this
    · rw [if_neg hd]
theorem prB_of {p : Nat} (h : Pr p) : prB p = true := by
  unfold prB
  rw [Bool.and_eq_true]
  exact ⟨Nat.ble_eq_true_of_le h.1, noPart_of p p 2 h.2⟩
theorem allF_at : ∀ {n p : Nat}, allF n = true → 0 < p → p ≤ n → Pr p → ferm p (p - 1) = true
  | 0, p, _, h0, h1, _ => by omega
  | n + 1, p, h, h0, h1, pr => by
    unfold allF at h
    rw [Bool.and_eq_true] at h
    by_cases e : p = n + 1
    · subst e
      have h := h.1
      rw [prB_of pr] at h
      exact h
    · exact allF_at h.2 h0 (by omega) pr
theorem fermat {p a : Nat} (pr : Pr p) (le : p ≤ 997) (h0 : 0 < a) (h1 : a < p) : a ^ (p - 1) % p = 1 :=
  ferm_ok (allF_at allF_997 (by omega) le pr) h0 (by omega)
theorem fermatZ {p : Nat} {a : Int} (pr : Pr p) (le : p ≤ 997) (h0 : 0 < a) (h1 : a < p) : a ^ (p - 1) % (p : Int) = 1 := by
  have e : a = ((a.toNat : Nat) : Int) := by omega
  rw [e]
  exact fermatI (fermat pr le (by omega) (by omega))
end NT
namespace NT
/-! ### orders -/
structure IsOrd (m : Nat) (a : Int) (n : Nat) : Prop where
  pos : 1 ≤ n
  one : a ^ n % (m : Int) = 1
  least : ∀ k : Nat, 1 ≤ k → k < n → a ^ k % (m : Int) ≠ 1
/-- the first number from n on (f are tried) -/
def ordF (m a : Nat) : Nat → Nat → Nat
  | 0, n => n
  | f + 1, n => if Nat.beq (a ^ n % m) 1 = true then n else ordF m a f (n + 1)
theorem ordF_ok {m a : Nat} : ∀ {f n k : Nat}, n ≤ k → k < n + f → a ^ k % m = 1 → n ≤ ordF m a f n ∧ a ^ ordF m a f n % m = 1 ∧ ∀ j, n ≤ j → j < ordF m a f n → a ^ j % m ≠ 1
  | 0, n, k, h1, h2, _ => by omega
  | f + 1, n, k, h1, h2, h3 => by
    unfold ordF
    by_cases e : Nat.beq (a ^ n % m) 1 = true
    · rw [if_pos e]
      exact ⟨Nat.le_refl _, Nat.eq_of_beq_eq_true e, fun j z1 z2 => by omega⟩
    · rw [if_neg e]
      have ne : a ^ n % m ≠ 1 := fun z => e (by rw [z]; rfl)
      have nk : n ≠ k := fun z => ne (by rw [z]; exact h3)
      obtain ⟨g1, g2, g3⟩ := ordF_ok (m := m) (a := a) (f := f) (n := n + 1) (k := k) (by omega) (by omega) h3
      refine ⟨by omega, g2, fun j z1 z2 => ?_⟩
      by_cases w : j = n
      · rw [w]; exact ne
      · exact g3 j (by omega) z2
def ordN (m a : Nat) : Nat := ordF m a m 1
def ordZ (m : Nat) (a : Int) : Nat := ordN m a.toNat
theorem pow_nat {m : Nat} {a : Int} (h : 0 ≤ a) (n : Nat) : a ^ n % (m : Int) = ((a.toNat ^ n % m : Nat) : Int) := by
  have e : a = ((a.toNat : Nat) : Int) := by omega
  generalize a.toNat = b at *
  subst e
  simp
theorem pow_nat1 {m : Nat} {a : Int} (h : 0 ≤ a) (n : Nat) : a ^ n % (m : Int) = 1 ↔ a.toNat ^ n % m = 1 := by
  rw [pow_nat h]
  omega
theorem ordZ_ok {m : Nat} {a : Int} (pr : Pr m) (le : m ≤ 997) (h0 : 0 < a) (h1 : a < m) : IsOrd m a (ordZ m a) := by
  have p2 := pr.1
  have f := fermat pr le (a := a.toNat) (by omega) (by omega)
  obtain ⟨g1, g2, g3⟩ := ordF_ok (m := m) (a := a.toNat) (f := m) (n := 1) (k := m - 1) (by omega) (by omega) f
  refine ⟨g1, (pow_nat1 (by omega) _).mpr g2, fun k k1 k2 z => ?_⟩
  exact g3 k k1 k2 ((pow_nat1 (by omega) _).mp z)
theorem IsOrd.le {m : Nat} {a : Int} {n : Nat} (x : IsOrd m a n) (pr : Pr m) (le : m ≤ 997) (h0 : 0 < a) (h1 : a < m) : n ≤ m - 1 := by
  rcases Nat.lt_or_ge (m - 1) n with z | z
  · have p2 := pr.1
    exact absurd (fermatZ pr le h0 h1) (x.least _ (by omega) z)
  · exact z
/-- rests whose power by s is 1; those of order s -/
def near (m : Nat) (s : Int) : List Int := ((List.range (m - 1)).filter fun k => decide ((1 + ((k : Nat) : Int)) ^ s.toNat % (m : Int) = 1)).map fun k => 1 + ((k : Nat) : Int)
def ofOrd (m : Nat) (s : Int) (i : Nat) : List Int := ((List.range i).filter fun k => decide ((ordZ m (1 + ((k : Nat) : Int)) : Int) = s)).map fun k => 1 + ((k : Nat) : Int)
def rootsL (m : Nat) (s : Int) : List Int := if s < 1 ∨ ((m : Int) - 1) % s ≠ 0 then [] else (near m s).filter fun a => decide ((ordZ m a : Int) = s)
end NT
namespace NT
def hasB (ps : List Nat) : Bool := ps.all fun p => (List.range p).all fun s => s == 0 || (p - 1) % s != 0 || (List.range (p - 1)).any fun k => ordN p (k + 1) == s
end NT
namespace XD
open PySem PyProof PyProof.Rows
/-- the exception at e: its class, no dict of its own, its trail's last entry with the flight fl -/
def TD (hp base : Heap) (e : Addr) (cl fl : Value) : Prop :=
  ∃ oe vs T oT ts, hp.get? e = some oe ∧ (oe.cls = cl ∧ oe.dict = none) ∧ oe.data = .fields vs ∧ vs[1]? = some (.ref T) ∧ base.get? T = none ∧ T ≠ e ∧ hp.get? T = some oT ∧ oT.data = .fields ts ∧ ts[3]? = some fl
def Fly (base : Heap) (l : List Env) (e : Addr) (cl fl : Value) (hp : Heap) : Prop := base.StaysIn hp ∧ base.get? e = none ∧ hp.FunFrames base l ∧ TD hp base e cl fl
theorem Fly.there {base hp : Heap} {l : List Env} {e : Addr} {cl fl : Value} (x : Fly base l e cl fl hp) : ∃ oe vs, hp.get? e = some oe ∧ oe.cls = cl ∧ oe.dict = none ∧ oe.data = .fields vs := by
  obtain ⟨_, _, _, oe, vs, _, _, _, he, hc, hd, _⟩ := x
  exact ⟨oe, vs, he, hc.1, hc.2, hd⟩
theorem Fly.tail {base hp : Heap} {en : Env} {l : List Env} {e : Addr} {cl fl : Value} (x : Fly base (en :: l) e cl fl hp) : Fly base l e cl fl hp := by
  obtain ⟨k1, k2, ⟨_, _, k3⟩, k4⟩ := x
  exact ⟨k1, k2, k3, k4⟩
theorem dict_mapFields (o : Obj) (f) : (o.mapFields f).dict = o.dict := by
  unfold Obj.mapFields
  split <;> rfl
section
variable {M : Model} {A : Around} {E : Value → Shared → Prop} {z : Shared} {base : Heap} {en : Env} {l : List Env} {L e : Addr} {Q : Unit → Shared → Prop}
theorem entry {oe : Obj} {vs : Array Value} {hd0 : Value} {nx : Bool} (fr : A.frames = some (en :: l)) (fl : z.heap.FunFrames base (en :: l)) (ef : en.frame = some L) (he : z.heap.get? e = some oe) (kb : base.StaysIn z.heap) (be : base.get? e = none) (dn : oe.dict = none)
    (dt : oe.data = .fields vs) (v1 : 1 < vs.size) (k : ∀ h', Fly base (en :: l) e oe.cls (rawInt L) h' → z.heap.UpToSlots h' → Q () { z with heap := h' }) :
    wpAny M A (do let a ← frameOf en; let pl ← entryPlaceOf L nx; let b ← EntryCells.newEntry hd0 a .none (rawInt L) .none pl; setField (.ref e) 1 b) Q E z := by
  have enf : e ∉ (en :: l).filterMap (·.frame) := fun hm => by
    obtain ⟨_, o, ho, nf⟩ := fl.mem hm
    rw [he] at ho
    cases ho
    exact nf vs dt
  refine wpAny_bind (wpAny_frameOf_fun fr fl ef fun g1 gs => wpAny_bind (wpAny_entryPlaceOf fun pl ppl => ?_))
  unfold EntryCells.newEntry
  unfold newFields
  refine wpAny_bind (wpAny_newObj_type ?_ (ppl.sizeOk5 _ _ _ _ _))
  have e1 : g1.get? e = some oe := (gs.2.1 e enf).trans he
  have b1 : base.StaysIn g1 := fun b o q => (gs.2.1 b fun hm => by rw [(fl.mem hm).1] at q; cases q).trans (kb b o q)
  generalize ho : ({ cls := .type "traceback", dict := none, data := .fields ([hd0, .ref L, .none, rawInt L, .none] ++ (if pl.isEmpty then List.replicate 6 Value.none else pl)).toArray } : Obj) = oT
  have dT : oT.data = .fields ([hd0, .ref L, .none, rawInt L, .none] ++ (if pl.isEmpty then List.replicate 6 Value.none else pl)).toArray := by rw [← ho]
  have nfT : oT.isFreed = false := Obj.isFreed_of_fields dT
  have e2 : (g1.push oT).get? e = some oe := Heap.get?_push_of_some oT e1
  refine wpAny_setField e2 dt v1 (k _ ?_ ?_)
  · have ne : g1.objs.size ≠ e := Nat.ne_of_gt (Heap.lt_size e1)
    have d3 := Obj.data_mapFields dt (·.setIfInBounds 1 (Value.ref g1.objs.size))
    have e3 := Heap.get?_update_self (Obj.mapFields (·.setIfInBounds 1 (Value.ref g1.objs.size))) e2 (Obj.isFreed_of_fields d3)
    have T3 := (Heap.get?_update_other (g1.push oT) (Obj.mapFields (·.setIfInBounds 1 (Value.ref g1.objs.size))) (Ne.symm ne)).trans (Heap.get?_push_size g1 nfT)
    have kp : ∀ b o, b ≠ e → g1.get? b = some o → ((g1.push oT).update e (Obj.mapFields (·.setIfInBounds 1 (Value.ref g1.objs.size)))).get? b = some o := fun b o n q => by
      rw [Heap.get?_update_other _ _ (Ne.symm n)]
      exact Heap.get?_push_of_some oT q
    have nr : ∀ b o, z.heap.get? b = some o → (∀ vs, o.data ≠ .fields vs) → b ≠ e := fun b o q nf y => by
      rw [y, he] at q
      cases q
      exact nf vs dt
    refine ⟨fun b o q => kp b o (fun y => by rw [y, be] at q; cases q) (b1 b o q), be, fl.of_keeps fun b o q nf => ?_, _, _, g1.objs.size, oT, _, e3, ⟨Obj.cls_mapFields _ _, (dict_mapFields _ _).trans dn⟩, d3, by simp [v1], b1.fresh, ne, T3, dT, ?_⟩
    · obtain ⟨sl, q2⟩ := gs.2.2 b o q
      exact ⟨_, kp b _ (nr b o q nf) q2, rfl⟩
    · first | (simp; done) | (rcases ppl with rfl | ⟨_, _, _, _, _, _, _, rfl⟩ <;> simp)
  · intro b o q nf
    have n : b ≠ e := fun y => by
      rw [y, he] at q
      cases q
      exact nf vs dt
    obtain ⟨sl, q2⟩ := gs.2.2 b o q
    refine ⟨sl, ?_⟩
    show ((g1.push oT).update e _).get? b = _
    rw [Heap.get?_update_other _ _ (Ne.symm n)]
    exact Heap.get?_push_of_some oT q2
/-- the flight is written -/
theorem flight {cl fl : Value} (R : Fly base l e cl fl z.heap) (k : ∀ h', Fly base l e cl .none h' → z.heap.UpToSlots h' → Q () { z with heap := h' }) : wpAny M A (setFlight (.ref e) none) Q E z := by
  obtain ⟨kb, be, ff, oe, vs, T, oT, ts, he, hc, dt, h1, bT, ne, hT, dT, h3⟩ := R
  have z3 : 3 < ts.size := (Array.getElem?_eq_some_iff.mp h3).1
  unfold setFlight
  refine wpAny_bind (wpAny_field he dt h1 ?_)
  have tnn : (Value.ref T != Value.none) = true := by simp
  rw [if_pos tnn]
  have ot : ∀ b, b ≠ T → (z.heap.update T (Obj.mapFields (·.setIfInBounds 3 ((none : Option Addr).elim Value.none fun f => rawInt f)))).get? b = z.heap.get? b := fun b n => Heap.get?_update_other _ _ (Ne.symm n)
  have nr : ∀ b o, z.heap.get? b = some o → (∀ vs, o.data ≠ .fields vs) → b ≠ T := fun b o q nf y => by
    rw [y, hT] at q
    cases q
    exact nf ts dT
  refine wpAny_setField hT dT z3 (k _ ⟨fun b o q => (ot b fun y => by rw [y, bT] at q; cases q).trans (kb b o q), be, ff.of_keeps fun b o q nf => ⟨o, (ot b (nr b o q nf)).trans q, rfl⟩, ?_⟩ fun b o q nf => ⟨o.slots, (ot b (nr b o q nf)).trans q⟩)
  exact ⟨oe, vs, T, _, _, (ot e (Ne.symm ne)).trans he, hc, dt, h1, bT, ne, Heap.get?_update_self _ hT (Obj.isFreed_of_fields (Obj.data_mapFields dT _)), Obj.data_mapFields dT _, by simp [z3]⟩
/-- an exception that comes from a callee is noted in our frame -/
theorem looks {C : Value} (fr : A.frames = some (en :: l)) (ef : en.frame = some L) (R : Fly base (en :: l) e C .none z.heap) (k : ∀ h', Fly base (en :: l) e C (rawInt L) h' → z.heap.UpToSlots h' → Q () { z with heap := h' }) : wpAny M A (noteFrame (.ref e) en) Q E z := by
  obtain ⟨kb, be, ff, oe, vs, T, oT, ts, he, hc, dt, h1, bT, ne, hT, dT, h3⟩ := R
  have z3 : 3 < ts.size := (Array.getElem?_eq_some_iff.mp h3).1
  unfold noteFrame
  simp only [ef]
  refine wpAny_bind (wpAny_field he dt h1 ?_)
  have tnn : (Value.ref T != Value.none) = true := by simp
  rw [if_pos tnn]
  refine wpAny_bind (wpAny_field hT dT h3 ?_)
  have rnn : ¬ ((Value.none == rawInt L) = true) := by simp [rawInt]
  rw [if_neg rnn]
  refine wpAny_bind (wpAny_setField hT dT z3 ?_)
  have ot : ∀ b, b ≠ T → (z.heap.update T (Obj.mapFields (·.setIfInBounds 3 Value.none))).get? b = z.heap.get? b := fun b n => Heap.get?_update_other _ _ (Ne.symm n)
  have nr : ∀ b o, z.heap.get? b = some o → (∀ vs, o.data ≠ .fields vs) → b ≠ T := fun b o q nf y => by
    rw [y, hT] at q
    cases q
    exact nf ts dT
  refine entry (z := { z with heap := z.heap.update T (Obj.mapFields (·.setIfInBounds 3 Value.none)) }) fr (ff.of_keeps fun b o q nf => ⟨o, (ot b (nr b o q nf)).trans q, rfl⟩) ef ((ot e (Ne.symm ne)).trans he) (fun b o q => (ot b fun y => by rw [y, bT] at q; cases q).trans (kb b o q)) be hc.2 dt (Array.getElem?_eq_some_iff.mp h1).1 fun h' F u => k h' ?_ ?_
  · rw [hc.1] at F
    exact F
  · intro b o q nf
    exact u b o ((ot b (nr b o q nf)).trans q) nf
end
end XD
namespace L2
open PySem PySem.Spec PyProof.Rows
/-- an exception lies behind a call: thrown by an own class at C, what was there ahead of the call and what is tracked stays out of its reach -/
def CXE (P : Program) (w : World) : CXT := fun outer H s E e s' => ∃ (ea C : Addr) (B : Heap) (H' : Hp), e = .ref ea ∧ s'.os = s.os ∧ AllBare s'.gens ∧ Un (frs outer) [] H H' s.heap s'.heap ∧ HOk P w H' s'.heap ∧
  XD.Fly B outer ea (.ref C) .none s'.heap ∧ (∀ b o, s'.heap.get? b = some o → H' b ≠ none → B.get? b = some o) ∧ (∀ b o, s.heap.get? b = some o → H b = none → b ∉ frs outer → B.get? b = some o) ∧ (∀ b o, s.heap.get? b = some o → b ∉ frs outer → ∃ o', B.get? b = some o') ∧ H' ea = none ∧ E (.ref C) none H'
section
variable {P : Program} {w : World} {K : PySem.W.Frag} {mg : Str → Option Value} {base : Heap} {N : List Str} {qual : Str} {scope : Scope} {f : Addr} {cd : Value} {A : Around} {outer : List Env} {s : Shared} {H : Hp} {E : XK}
theorem ObjOk.some {H : Hp} {h : Heap} {a : Addr} {o : HO} (x : ObjOk P w H h a o) : ∃ u, h.get? a = Option.some u := by
  cases o with
  | lst xs => obtain ⟨_, _, _, _, e⟩ := x; exact ⟨_, e⟩
  | tup xs => obtain ⟨_, _, _, p⟩ := x; obtain ⟨u, e, _⟩ := p; exact ⟨u, e⟩
  | dK kvs => obtain ⟨_, _, _, _, o, _, _, e, _⟩ := x; exact ⟨_, e⟩
  | dT kvs => obtain ⟨_, _, _, _, o, _, _, e, _⟩ := x; exact ⟨_, e⟩
  | set S n => obtain ⟨o, _, _, _, e, _⟩ := x; exact ⟨_, e⟩
  | ins C dx fs => obtain ⟨_, _, _, e, _⟩ := x; exact ⟨_, e⟩
  | own y => obtain ⟨_, e⟩ := x; exact ⟨_, e⟩
  | xd fs => obtain ⟨_, ⟨_, _, _, e, _⟩, _⟩ := x; exact ⟨_, e⟩
  | rng lo hi => obtain ⟨_, _, _, e⟩ := x; exact ⟨_, e⟩
  | frz ob u => obtain ⟨e, _⟩ := x; exact ⟨_, e⟩
  | tbl ps => exact ⟨_, (show h.get? a = Option.some _ from x)⟩
  | met f y => exact ⟨_, (show h.get? a = Option.some _ from x)⟩
  | ext φ => obtain ⟨_, ⟨_, e⟩, _⟩ := x; exact ⟨_, e⟩
/-- what was tracked lies in a part that stays: it is held still -/
theorem HOk.inside {h h' B : Heap} {H : Hp} (ok : HOk P w H h) (hB : ∀ b o, h.get? b = some o → H b ≠ none → B.get? b = some o) (st : B.StaysIn h') : HOk P w H h' := fun a o e =>
  (ok a o e).stay (fun b u hb q => st b u (hB b u q (by
    rcases hb with rfl | hb
    · rw [e]; intro z; cases z
    · rw [hb]; intro z; cases z))) (fun _ q => q) fun _ _ q => q
end
end L2
namespace L2
open PySem PySem.Spec PyProof.Rows
section
variable {X : Cx} {e : Expr} {te : TE} {pos : Pos}
/-! ### f-strings of ints -/
def tFmt (te : TE) : TE := fun σ H Q => te σ H fun v H1 => ∃ i : Int, v = .int i ∧ i.natAbs.log2 < 1920 ∧ Q (.str (toString i)) H1
theorem pe_fmt (h : PE X e te) : PE X (.FormattedValue e (-1) none pos) (tFmt te) := by
  intro pins s σ H Q I q
  refine FormattedValue_plain (thn (h pins s σ H _ I q) fun u s1 ⟨v, H1, I1, r, i, ev, hi, q1⟩ => ?_)
  subst ev
  obtain ⟨t, rfl⟩ := r
  exact formatField_int_small hi ⟨.str _, H1, I1.tok _, ⟨_, rfl⟩, q1⟩
inductive PEs (X : Cx) : List Expr → List TE → Prop
  | nil : PEs X [] []
  | cons {e : Expr} {es : List Expr} {t : TE} {ts : List TE} : PE X e t → PEs X es ts → PEs X (e :: es) (t :: ts)
def tJoin : Str → List TE → TE
  | out, [] => fun _ H Q => out.length ≤ sizeLine ∧ Q (.str out) H
  | out, t :: ts => fun σ H Q => t σ H fun v H1 => ∃ y, v = .str y ∧ (out ++ y).length ≤ sizeLine ∧ tJoin (out ++ y) ts σ H1 Q
theorem pj {es : List Expr} {ts : List TE} (h : PEs X es ts) : ∀ (out : Str) (pins : List (Addr × Obj)) (s : Shared) (σ : St) (H : Hp) (Q : VK), Inv X pins σ H s → tJoin out ts σ H Q → wpAny (model X.prog X.w) X.A (joinParts out (evalEach es X.env)) (EP X pins σ Q) X.xe s := by
  induction h with
  | nil =>
    intro out pins s σ H Q I q
    exact joinParts_nil ⟨.str _, H, I.tok _, ⟨_, rfl⟩, q.2⟩ q.1
  | cons he hs ih =>
    intro out pins s σ H Q I q
    refine joinParts_cons (thn (he pins s σ H _ I q) fun u s1 ⟨v, H1, I1, r, y, ev, hz, q1⟩ => ?_)
    subst ev
    obtain ⟨t, rfl⟩ := r
    exact ⟨hz, ih _ pins s1 σ H1 Q I1 q1⟩
theorem pe_join {e1 e2 : Expr} {es : List Expr} {ts : List TE} (h : PEs X (e1 :: e2 :: es) ts) : PE X (.JoinedStr (e1 :: e2 :: es) pos) (tJoin Str.empty ts) := fun pins s σ H Q I q => JoinedStr_many (pj h Str.empty pins s σ H Q I q)
/-! ### raise C(..) of an own class that lies under an own class -/
theorem own_of_mod {K : PySem.W.Frag} {h₀ : Heap} {mg : Str → Option Value} {x : Str} {C : Addr} {bmB : List Value} {newId : String} (X : K.In h₀) (g : h₀.Ns mainGlobals mg) (e : PySem.W.nsIn K mainGlobals x = some (some (.ref C))) (q : PySem.W.excIn K C bmB newId = true) : OwnCls x C bmB newId mg h₀ := by
  refine ⟨PySem.W.mg_of X g e, ?_⟩
  unfold PySem.W.excIn at q
  split at q
  · rename_i dd cd sl ho
    split at q
    · rename_i C' bm k0 k1 k2 k3 nn k5 hm hs
      simp only [Bool.and_eq_true, Bool.not_eq_true', beq_iff_eq] at q
      obtain ⟨⟨⟨⟨⟨rfl, rfl⟩, dl⟩, tl⟩, ok⟩, ni⟩ := q
      obtain ⟨c1, c2, c3, c4, c5, c6, c7, c8, c9, c10, c11⟩ := cd
      dsimp only at hm dl ok ni
      subst hm dl
      have hsl : sl = #[k0, k1, k2, k3, some (.builtin nn), k5] := by
        cases sl
        dsimp only at hs
        rw [hs]
      subst hsl
      exact ⟨bm, c4, c1, c5, c2, c6, c7, c8, c9, c10, dd, k0, k1, k2, k3, k5, _, X _ _ ho, .of_isNs (PySem.W.isNs_of_in X ok), PySem.W.nsMap_none_of_in X ok ni, PySem.W.tail_of_in X tl⟩
    · cases q
  · cases q
/-- what is wanted where an exception of the class at C is made -/
def Throws (X : Cx) (C : Addr) (T : Hp → Prop) : Prop := ∀ (pins : List (Addr × Obj)) (σ : St) (H : Hp) (s : Shared) (h' : Heap) (e : Addr) (vs : List Value), Inv X pins σ H s → Heap.MadeExcOf s.heap h' e (.ref C) vs → T H → X.xe (.ref e) { s with heap := h' }
def tRaise (te : TE) (T : Hp → Prop) : TS := fun _ σ H => te σ H fun x H1 => [x].length = 1 ∧ T H1
theorem ps_raise {x : Str} {C : Addr} {bm bmN : List Value} {newId B Bn nid initId inN : String} {np cpos : Pos} {T : Hp → Prop} {name : Str} {scope : Scope} {a : Addr} {cd : Value} (he : PE X e te) (ht : Throws X C T) (ex : PySem.W.nsIn X.K mainGlobals x = some (some (.ref C))) (q : PySem.W.excIn X.K C bm newId = true)
    (Fn : ExcBaseFacts Bn newId inN bmN) (hBn : bm.contains (.type Bn) = true) (FB : ExcBaseFacts B nid initId bm) (hc : X.calm = true) (hen : X.env = envOf name scope X.env.locals a cd) (hk : scope.kind = .function) (hx : scope.names.lookup x = some .globalImplicit)
    (hd : (x == ("__debug__" : Str)) = false := by decide) (hs : starEach [e] X.env = [(false, eval e X.env)] := by rfl) : PS X (.Raise (some (.Call (.Name x np) [e] [] cpos)) none pos) (tRaise te T) := by
  intro pins s σ H D I h
  obtain ⟨m, F⟩ := I.fr
  have ha := pa_cons he (pa_nil (X := X)) hs
  have run := ha cpos pins s σ H (fun us H1 => us.length = 1 ∧ T H1) I h
  rw [hen] at run hs ⊢
  refine Raise_own2 F I.mod.glob (own_of_mod I.mod.kin I.mod.glob ex q) Fn hBn FB (I.ok.hd hc) (thn run fun us s2 ⟨vs, H1, I1, r, q1⟩ => ⟨?_, I1.bk, fun h' e' hx => ht pins σ H1 s2 h' e' us I1 hx q1.2⟩) hs rfl hk ?_ hd
  · have e1 := r.length
    rw [q1.1] at e1
    rw [← e1]
    decide
  · exact hx
end
end L2
namespace L2
open PySem PySem.Spec PyProof.Rows
section
variable {X : Cx} {pins : List (Addr × Obj)} {σ : St} {H H1 H' : Hp} {s s1 s' : Shared}
/-- the exception has come to a frame of ours: the frame as it was ahead of the call -/
theorem land {B h' : Heap} {ea : Addr} (I : Inv X pins σ H1 s1) (os : s'.os = s1.os) (bare : AllBare s'.gens) (un : Un (frs X.stack) [] H1 H' s1.heap s'.heap) (ok : HOk X.prog X.w H' s'.heap)
    (tr : ∀ b o, s'.heap.get? b = some o → H' b ≠ none → B.get? b = some o) (old : ∀ b o, s1.heap.get? b = some o → H1 b = none → b ∉ frs X.stack → B.get? b = some o) (th : ∀ b o, s1.heap.get? b = some o → b ∉ frs X.stack → ∃ o', B.get? b = some o')
    (st : B.StaysIn h') (us : s'.heap.UpToSlots h') (φ : HO) (hn : H' ea = none) (hnew : s1.heap.get? ea = none) (nw : ObjOk X.prog X.w (upd H' ea φ) h' ea φ) :
    Inv X pins σ (upd H' ea φ) { s' with heap := h' } := by
  have nex : ∀ b : Addr, b ∉ ([] : List Addr) := fun b z => by cases z
  have ne : ∀ b o, s1.heap.get? b = some o → b ≠ ea := fun b o q z => by rw [z, hnew] at q; cases q
  have sl : ∀ b o, s1.heap.get? b = some o → H1 b = none → b ∈ frs X.stack → ∃ sl, h'.get? b = some { o with slots := sl } := fun b o q n hb => by
    obtain ⟨sl, q2⟩ := un.slot b o q n hb (nex b)
    obtain ⟨_, o2, ho2, nf⟩ := I.stack.mem hb
    rw [q] at ho2
    cases ho2
    obtain ⟨sl2, q3⟩ := us b _ q2 nf
    exact ⟨sl2, q3⟩
  refine I.call' (s' := { s' with heap := h' }) (ch := []) os ⟨fun b o q n hb _ => st b o (old b o q n hb), fun b o q n hb _ => sl b o q n hb, fun b o q n _ => ?_, fun b o q _ => ?_, fun b xs q => ?_, fun b o u q => ?_, fun b ps q => ?_⟩ ?_ bare (fun b z => absurd z (nex b))
  · rw [upd_ne (ne b o q)]
    exact un.free b o q n (nex b)
  · by_cases z : b ∈ frs X.stack
    · obtain ⟨_, e⟩ := sl b o q (I.stkFree b z) z
      exact ⟨_, e⟩
    · obtain ⟨o', e⟩ := th b o q z
      exact ⟨o', st b o' e⟩
  · obtain ⟨o, e⟩ := (I.hok b _ q).some
    rw [upd_ne (ne b o e)]
    exact un.tups b xs q
  · obtain ⟨o', e⟩ := (I.hok b _ q).some
    rw [upd_ne (ne b o' e)]
    exact un.frzs b o u q
  · obtain ⟨o', e⟩ := (I.hok b _ q).some
    rw [upd_ne (ne b o' e)]
    exact un.tbls b ps q
  · have ok2 := HOk.inside ok tr st
    intro b u e
    by_cases hb : b = ea
    · subst hb
      rw [upd_same] at e
      cases e
      exact nw
    · rw [upd_ne hb] at e
      exact (ok2 b u e).stay (fun _ _ _ q => q) (fun c q => by rw [upd_ne (ne_of_none q hn)]; exact q) fun c xs q => by rw [upd_ne (ne_of_none q hn)]; exact q
/-- the name goes behind the suite -/
theorem goes_ok {M : Model} {A : Around} {E : Value → Shared → Prop} {j : Nat} {n : Str} {pos : Pos} {Q : Unit → Shared → Prop} (I : Inv X pins σ H s) (hN : X.N.Nodup) (hj : X.N[j]? = some n) (hl : X.env.scope.names.lookup n = some .local)
    (h : ∀ s', Inv X pins (σ.set j none) H s' → Q () s') : wpAny M A (do bindName X.env n .none; unbindBehindTheSuite X.env n pos) Q E s := by
  have hcls : (X.env.scope.kind == .class || (X.env.scope.kind == .module && X.env.locals != X.env.globals)) = false := by rw [I.ok.kind]; rfl
  refine wpAny_bind (wpAny_bindName (store_ok (v := .non) I hN hj (.inl hl) rfl (fun s2 I2 => ?_) (.inr hl)))
  unfold unbindBehindTheSuite
  refine wpAny_onRaise ?_
  obtain ⟨m, hn, lk⟩ := id I2.loc
  have hjσ : j < σ.length := by rw [I.len]; exact (List.getElem?_eq_some_iff.mp hj).1
  have hv : ∃ u, m n = some u := by
    obtain ⟨u, _, q⟩ := lk j n .non hj (by rw [List.getElem?_set_self hjσ]) (.inl hl)
    rcases q with ⟨_, q⟩ | ⟨q, _⟩
    · exact ⟨u, q⟩
    · have e : X.env.kindOf n = some .local := hl
      rw [e] at q
      rcases q with q | q <;> cases q
  obtain ⟨v, hv⟩ := hv
  refine wpAny_unbindName_local hl hn hv hcls fun h' u hn' sm => h _ ?_
  have ne : ∀ b, b ≠ X.env.locals → h'.get? b = s2.heap.get? b := sm.2
  have lo : ∀ b o, X.s₀.heap.get? b = some o → b ≠ X.env.locals := fun b o q z => by
    have := Heap.lt_size q
    rw [z] at this
    exact absurd (Nat.lt_of_lt_of_le this I.ok.above) (Nat.lt_irrefl _)
  obtain ⟨oL, _, _, hoL, _⟩ := id hn
  have hc : ∀ x c, X.env.cells.lookup x = some c → c ≠ X.env.locals := fun x c e z => by
    obtain ⟨w', oc, q, d⟩ := I2.cell x c e
    rw [z] at q
    exact I2.cne x c e z
  refine ⟨I2.ok, I2.os, I2.bare, ⟨fun b o q n hb hx => ?_, fun b o q n hb hx => ?_, I2.base.free, fun b o q hx => ?_, I2.base.tups, I2.base.frzs, I2.base.tbls⟩, ⟨_, hn', fun i x v' e1 e2 e3 => ?_⟩, fun x c e => ?_, I2.free, I2.freeC, fun p hp => ?_, fun b o e => ?_, by rw [List.length_set]; exact I.len⟩
  · exact (ne b (lo b o q)).trans (I2.base.keep b o q n hb hx)
  · obtain ⟨sl, z⟩ := I2.base.slot b o q n hb hx
    exact ⟨sl, (ne b (lo b o q)).trans z⟩
  · obtain ⟨o', z⟩ := I2.base.there b o q hx
    exact ⟨o', (ne b (lo b o q)).trans z⟩
  · have hij : i ≠ j := fun z => by
      rw [z, List.getElem?_set_self hjσ] at e2
      cases e2
    rw [List.getElem?_set_ne (Ne.symm hij)] at e2
    have hxn : x ≠ n := fun z => by
      rw [z] at e1
      obtain ⟨a1, a2⟩ := List.getElem?_eq_some_iff.mp e1
      obtain ⟨b1, b2⟩ := List.getElem?_eq_some_iff.mp hj
      exact hij ((List.getElem_inj hN).mp (a2.trans b2.symm))
    obtain ⟨u', r, q⟩ := lk i x v' e1 (by rw [List.getElem?_set_ne (Ne.symm hij)]; exact e2) e3
    refine ⟨u', r, ?_⟩
    rcases q with ⟨k1, k2⟩ | ⟨k1, c, k2, k3⟩
    · exact .inl ⟨k1, (if_neg hxn).trans k2⟩
    · obtain ⟨oc, k4, k5⟩ := k3
      exact .inr ⟨k1, c, k2, oc, (ne c (hc x c k2)).trans k4, k5⟩
  · obtain ⟨v2, oc, q, d⟩ := I2.cell x c e
    exact ⟨v2, oc, (ne c (hc x c e)).trans q, d⟩
  · obtain ⟨p1, p2, p3, p4, p5⟩ := I2.pin p hp
    exact ⟨(ne _ p3).trans p1, p2, p3, p4, p5⟩
  · refine (I2.hok b o e).stay (fun c w' hc' q => (ne c ?_).trans q) (fun _ q => q) fun _ _ q => q
    rintro rfl
    rcases hc' with z | z
    · rw [← z, I2.free] at e; cases e
    · rw [I2.free] at z; cases z
/-- within an except suite -/
abbrev Cx.mark (X : Cx) (e : Value) : Cx := { X with A := X.A.mark (some e), calm := false, xe := fun _ _ => False }
theorem Inv.mark (I : Inv X pins σ H s) (e : Value) : Inv (X.mark e) pins σ H s :=
  ⟨⟨I.ok.mod, I.ok.kind, I.ok.glob, I.ok.blt, I.ok.above, I.ok.inj, I.ok.has, I.ok.cab, fun z => (by cases z), I.ok.frames, I.ok.stk, I.ok.exf, I.ok.bs, I.ok.bsz, I.ok.noex, I.ok.exfs, I.ok.funs, I.ok.frf⟩, I.os, I.bare, I.base, I.loc, I.cell, I.free, I.freeC, I.pin, I.hok, I.len⟩
end
end L2
namespace L2
open PySem PySem.Spec PyProof.Rows
/-- the text's exception class at C, its classes above -/
def ExcAt (K : PySem.W.Frag) (C : Addr) (bm : List Value) : Prop := ∃ nm q N bs hdct sn sub ab col dd k0 k1 k2 k3 k5 newId, K.lookup C = some (excClassObj nm q C N bs bm hdct sn sub ab col dd k0 k1 k2 k3 k5 newId)
theorem match_super {M : Model} {A : Around} {E : Value → Shared → Prop} {K : PySem.W.Frag} {s : Shared} {e C S : Addr} {oe : Obj} {bm bm' : List Value} {Q : Bool → Shared → Prop} (X : K.In s.heap) (aC : ExcAt K C bm) (aS : ExcAt K S bm') (he : s.heap.get? e = some oe) (hcls : oe.cls = .ref C)
    (hb : bm'.contains (.type "BaseException") = true) (hin : bm.contains (.ref S) = true) (hq : Q true s) : wpAny M A (excMatches (.ref e) (.ref S)) Q E s := by
  obtain ⟨nm, q, N, bs, hdct, sn, sub, ab, col, dd, k0, k1, k2, k3, k5, newId, lC⟩ := aC
  obtain ⟨nm', q', N', bs', hdct', sn', sub', ab', col', dd', j0, j1, j2, j3, j5, newId', lS⟩ := aS
  obtain ⟨h, g, d, t, os⟩ := s
  have hC := X _ _ lC
  have hS := X _ _ lS
  have c1 : (Value.ref S :: bm').contains (.type "BaseException") = true := by rw [List.contains_cons, hb, Bool.or_true]
  have c2 : (Value.ref C :: bm).contains (.ref S) = true := by rw [List.contains_cons, hin, Bool.or_true]
  have f := tc_notTuple
  unfold excMatches
  repeat (first | (with_reducible refine wpAny_loadPart_at he ?_; rw [hcls]) | with_reducible refine wpAny_loadPart_at hS ?_ | (with_reducible refine wpAny_isSubtype_exc hS ?_; rw [c1]) | (with_reducible refine wpAny_isSubtype_exc hC ?_; rw [c2]) | wp_step)
  exact hq
/-- an exception of the class at C -/
def IsX (ea C : Addr) (h : Heap) : Prop := ∃ o vs, h.get? ea = some o ∧ o.cls = .ref C ∧ o.dict = none ∧ o.data = .fields vs
section
variable {X : Cx} {pins : List (Addr × Obj)} {σ : St} {H : Hp} {s : Shared} {CX : CXT} {k : Nat} {f C : Addr} {fd : FuncData} {ps : List Str} {sp : Sp} {dvs : List V} {ds : List Value} {E : XK} {x : Str} {p pos : Pos} {e : Expr} {es : List Expr} {t : TA} {Q : VK}
/-- C(..), the exception told apart at these values of the names -/
theorem make_at (M : Mk X.K C f) (F : FnOk X.prog X.w X.K X.mg X.base CX k f fd ps sp) (hr : Room (k + 1) X.A) (hg : Gl X x) (hm : X.mg x = some (.ref C)) (hb : Binds X.K fd ps ds) (hd : Vals dvs ds)
    (hx : ∀ (H : Hp) (s : Shared) (e : Value) (s' : Shared), Inv X pins σ H s → CX X.stack H s E e s' → X.xe e s') (ha : PA X (e :: es) t) (I : Inv X pins σ H s) (h : tMake C sp dvs E t σ H Q)
    (hdb : (x == ("__debug__" : Str)) = false := by decide) (he : starEach (e :: es) X.env = (false, eval e X.env) :: starEach es X.env := by rfl) (hpl : (backTo pos (starEach es X.env)).any (·.1) = false := by rfl) :
    wpAny (model X.prog X.w) X.A (eval (.Call (.Name x p) (e :: es) [] pos) X.env) (EP X pins σ Q) X.xe s := by
  refine wpAny_Call_Name_kw (ld_glob I hg hm ?_ hdb)
  refine PySem.W.callWith_K (h₀ := X.base) I.ok.mod.kin M.kp (thn (ha pos pins s σ H _ I h) fun us s1 ⟨vs, H1, I1, r, q⟩ => ⟨I1.kIn, ?_⟩) he hpl
  have hq := q (s1.heap.objs.size + 1) s1.heap.objs.size (I1.hok.fresh (Nat.le_succ _)) (I1.hok.fresh (Nat.le_refl _)) (Nat.ne_of_lt (Nat.lt_succ_self _))
  have I2 := Inv.made (C := C) I1
  have r2 : Vals (V.ref (s1.heap.objs.size + 1) :: (vs ++ dvs)) (Value.ref (s1.heap.objs.size + 1) :: (us ++ ds)) := .cons rfl (r.append hd)
  have hl : (Value.ref (s1.heap.objs.size + 1) :: us ++ ds).length = ps.length := by
    have e := r2.length
    rw [F.len _ _ _ _ hq] at e
    exact e.symm
  refine wpAny_call (make_map (f := f) I1.kIn M.makes M.init (beq_iff_eq.mp M.fn) (codeAny_mono (F.run _ X.stack _ _ ⟨Value.ref (s1.heap.objs.size + 1) :: us, []⟩ (Value.ref (s1.heap.objs.size + 1) :: (us ++ ds)) _ _ E (hr.make C us [])
    (I2.env0.make C us []) (hb _ (Value.ref (s1.heap.objs.size + 1) :: us) I2.kIn hl) r2 hq) fun r s' hq' => ?_))
  cases r with
  | error e => exact hx _ _ e s' I2 hq'
  | ok fl =>
    cases fl with
    | ret u =>
      obtain ⟨v, H', I3, rv, ev, q3⟩ := I2.after hq'
      subst ev
      exact ⟨rv, ⟨V.ref (s1.heap.objs.size + 1), H', I3, rfl, q3⟩⟩
    | next => exact False.elim hq'
    | brk => exact False.elim hq'
    | cont => exact False.elim hq'
end
section
variable {X : Cx} {k i j : Nat} {f C S Cn : Addr} {fd : FuncData} {ps : List Str} {sp : Sp} {x told n fld Sx : Str} {p tp ap np cp apos hpos pos : Pos} {e : Expr} {es : List Expr} {t : TA} {bmC bmS : List Value} {b0 : Stmt} {suite : List Stmt} {ts : TS}
/-- try: told = C(..).fld, except S as n: the suite -/
def tTry (K : PySem.W.Frag) (C Cn : Addr) (sp : Sp) (i j : Nat) (fld : Str) (t : TA) (ts : TS) : TS := fun D σ H =>
  tMake C sp [] (fun cls _ H' => cls = .ref Cn ∧ ∀ ea, H' ea = none → ts { nx := fun σ2 H2 => D.nx (σ2.set j none) H2, rt := fun _ _ => False } (σ.set j (some (.ref ea))) (upd H' ea (.ext (IsX ea Cn)))) t σ H
    (fun x H1 => ∃ a C dx fs v, x = .ref a ∧ H1 a = some (.ins C dx fs) ∧ Cls K C ∧ NoAttr K C fld ∧ fs.lookup fld = some v ∧ D.nx (σ.set i (some v)) H1)
end
end L2
namespace L2
open PySem PySem.Spec PyProof.Rows
section
variable {K : PySem.W.Frag} {C ea : Addr}
/-- what the class of an exception must have so that isinstance can be asked -/
structure XCls (K : PySem.W.Frag) (C : Addr) : Prop where
  ga : PySem.W.findIn K (.ref C) "__getattribute__" = some (some (.builtin "BaseException.__getattribute__"))
  gn : PySem.W.findIn K (.ref C) "__getattr__" = some none
  at_ : PySem.W.findIn K (.ref C) "__class__" = some (some (.builtin "object.__class__"))
  gets : PySem.W.specialIn K (.builtin "object.__class__") "__get__" = some (some (.builtin "getset_descriptor.__get__"))
  takes : PySem.W.takesIn K (.builtin "object.__class__") = some true
  obj : PySem.W.mroIn K C (.type "object") = some true
  exc : ∃ bm, ExcAt K C bm ∧ bm.contains (.type "BaseException") = true
theorem XCls.cls (c : XCls K C) : (PySem.W.clsIn K C).isSome = true := by
  obtain ⟨bm, ⟨nm, q, N, bs, hdct, sn, sub, ab, col, dd, k0, k1, k2, k3, k5, newId, lC⟩, _⟩ := c.exc
  unfold PySem.W.clsIn
  rw [lC]
  rfl
theorem IsX.inst {h : Heap} (x : IsX ea C h) : ∃ o, PySem.W.InstAt h ea o C none := by
  obtain ⟨o, vs, h1, h2, h3, h4⟩ := x
  refine ⟨o, h1, h2, ?_, ?_⟩
  · unfold PySem.W.notCls
    rw [h4]
  · rw [h3]
    trivial
section
variable {prog : Program} {w : World} {A : Around} {E : Value → Shared → Prop} {s : Shared}
theorem exc_class {bm : List Value} {Q : Option Value → Shared → Prop} (X : K.In s.heap) (x : IsX ea C s.heap) (hga : PySem.W.findIn K (.ref C) "__getattribute__" = some (some (.builtin "BaseException.__getattribute__"))) (hgn : PySem.W.findIn K (.ref C) "__getattr__" = some none)
   (aC : ExcAt K C bm) (hb : bm.contains (.type "BaseException") = true) (hf : PySem.W.findObj K C none "__class__" = some (.bind (.builtin "getset_descriptor.__get__") (.builtin "object.__class__"))) (hm : PySem.W.mroIn K C (.type "object") = some true) (k : Q (some (.ref C)) { s with toks := s.toks + 1 }) : wpAny (model prog w) A (getAttr? (.ref ea) "__class__") Q E s := by
  obtain ⟨o, i⟩ := x.inst
  obtain ⟨hh, g, d, t, os⟩ := s
  have La0 := i.type (M := model prog w)
  have Lb1 := PySem.W.looks_findIn (M := model prog w) X hga
  have L2 := PySem.W.looks_findIn (M := model prog w) X hgn
  unfold getAttr? getAttrBy?
  unfold getAttrBy
  refine wpAny_bind (wpAny_mkText (wpAny_bind (wpAny_attempt (wpAny_holding (wpAny_bind (La0.at (wpAny_bind (Lb1.at ?_))))))))
  have hx9 : (Value.builtin "BaseException.__getattribute__" == Value.builtin "object.__getattribute__") = false := by decide +kernel
  have f3 := PySem.F.excAttr_ValueError.ga.bind (.ref ea)
  repeat (any_goals (first | assumption | with_reducible refine L2.at ?_ | with_reducible refine La0.at ?_ | wp_step))
  obtain ⟨hx, hcl, _, _⟩ := id i
  obtain ⟨nm, q, N, bs, hdct, sn, sub, ab, col, dd, k0, k1, k2, k3, k5, newId, lC⟩ := aC
  have hC := X _ _ lC
  have hcB : (Value.ref C :: bm).contains (.type "BaseException") = true := by rw [List.contains_cons, hb, Bool.or_true]
  refine codeAny_call_builtin PySem.F.excAttr_ValueError.ga.plain PySem.F.entry_bexc_ga ?_
  have hkk : builtinKind "BaseException.__getattribute__" = some .slot := by decide +kernel
  have hspl : splitId "BaseException.__getattribute__" = some ("BaseException", "__getattribute__") := by decide +kernel
  have ha := PySem.F.args_bexc_ga (.ref ea) (.str "__class__" t)
  have ck : ∀ {Q : Unit → Shared → Prop} {E : Value → Shared → Prop} {A : Around} {g : Array GenState} {d : Drawn} {t' : Nat} {os : OsState}, Q () ⟨hh, g, d, t', os⟩ → wpAny (model prog w) A (checkBuiltinCall "BaseException.__getattribute__" ⟨[.ref ea, .str "__class__" t], []⟩) Q E ⟨hh, g, d, t', os⟩ := by
    intro Q E A g d t' os hq
    simp only [checkBuiltinCall, hkk, hspl]
    refine wpAny_bind ?_
    unfold isInstance
    repeat (first | (with_reducible refine wpAny_loadPart_at hx ?_; rw [hcl]) | (with_reducible refine wpAny_isSubtype_exc hC ?_; rw [hcB]) | wp_step)
    exact hq
  refine ck ?_
  have L3 := PySem.W.looks_find (M := model prog w) X i hf
  unfold Builtin.«object.__getattribute__»; skip
  repeat (any_goals (first | assumption | with_reducible refine La0.at ?_ | with_reducible refine L3.at ?_ | wp_step))
  refine PySem.W.class_get (s := ⟨hh, g, d, t + 1, os⟩) (ox := o) (od := none) X i hm ?_
  repeat (any_goals (first | assumption | (wp_step)))
end
theorem kitx_exc (c : XCls K C) : PySem.W.KitX K (.ref ea) (.ref C) (IsX ea C) where
  ty := fun M h _ x => by
    obtain ⟨o, i⟩ := x.inst
    exact i.type
  it := fun M h X _ => by
    have hc := c.cls
    unfold PySem.W.clsIn at hc
    split at hc
    · rename_i c' d' cd' sl' ho
      intro A' Q' E' s' k qq
      unfold isType loadHead
      exact wpAny_bind (wpAny_loadPart (k _ _ (X _ _ ho)) (wpAny_pure qq))
    · cases hc
  ne := fun h0 tp dd its n sl X htp => by
    refine Bool.eq_false_iff.mpr fun qq => ?_
    have e : C = tp := Value.ref.inj (beq_iff_eq.mp qq)
    subst e
    have hc := c.cls
    unfold PySem.W.clsIn at hc
    split at hc
    · rename_i c' d' cd' sl' ho
      have y := (X _ _ ho).symm.trans htp
      cases y
    · cases hc
  ca := fun {prog w A E Q s} X x k => by
    have hf : PySem.W.findObj K C none "__class__" = some (.bind (.builtin "getset_descriptor.__get__") (.builtin "object.__class__")) := by
      obtain ⟨cd, hc⟩ := Option.isSome_iff_exists.mp c.cls
      unfold PySem.W.findObj
      rw [hc, Option.bind_some, c.at_, Option.bind_some]
      simp [c.gets, c.takes]
    obtain ⟨bm, aC, hb⟩ := c.exc
    exact exc_class X x c.ga c.gn aC hb hf c.obj k
end
section
variable {X : Cx}
def clsV : V → Option Value
  | .ref S => some (.ref S)
  | .ty T => some (.type T)
  | _ => none
def rIsx (K : PySem.W.Frag) : List V → Hp → VK → Prop := fun xs H Q => ∃ (ea C : Addr) (c : V) (u : Value) (b : Bool), xs = [.ref ea, c] ∧ H ea = some (.ext (IsX ea C)) ∧ XCls K C ∧ clsV c = some u ∧ PySem.W.kitOne K (.ref C) u = some b ∧ Q (.bl b) H
theorem call_isx : CallR X (.builtin "isinstance") (rIsx X.K) := by
  intro pins s σ H xs us Q I r h
  obtain ⟨ea, C, c, u, b, rfl, he, xc, hc, hk, q⟩ := h
  cases r with
  | cons r1 r2 =>
  cases r2 with
  | cons r3 r4 =>
  cases r4
  cases r1
  obtain ⟨px, _, _⟩ := I.hok ea _ he
  cases c with
  | ref S =>
    cases hc
    cases r3
    exact PySem.W.kia_one (kitx_exc xc) I.kIn px hk (by intro z; cases z) fun tk => ⟨.bl b, H, I.tok tk, rfl, q⟩
  | ty T =>
    cases hc
    cases r3
    exact PySem.W.kia_one (kitx_exc xc) I.kIn px hk (by intro z; cases z) fun tk => ⟨.bl b, H, I.tok tk, rfl, q⟩
  | _ => cases hc
end
end L2
namespace L2
open PySem PySem.Spec PyProof.Rows
theorem Fun.okX {P : Program} {w : World} {K : PySem.W.Frag} {mg : Str → Option Value} {base : Heap} {x qual : Str} {st : Stmt} {f : Addr} {fd : FuncData} {N ps : List Str} {k : Nat} {sp : Sp} (F : Fun K x qual st f fd) (S : FnScope N ps (defScope st)) (len : ∀ vs H Q E, sp vs H Q E → vs.length = ps.length)
    (hbody : ∀ (cdv : Value) (A : Around) (outer : List Env) (s : Shared) (H : Hp) (vs : List V) (Q : VK) (E : XK), Room k (A.deeper (envOfC qual (defScope st) s.heap.objs.size f cdv)) → sp vs H Q E →
      ∃ t, JSs (cxOf (CXE P w) P w K mg base N qual (defScope st) f cdv A outer s H E) (defBody st) t ∧ t { nx := fun _ H' => Q .non H', rt := Q } (start N vs) H) : FnOk P w K mg base (CXE P w) (k + 1) f fd ps sp := by
  obtain ⟨oc, od, kV, doc, pm, an, cdv, ct, osl, rfl, lk, hcd⟩ := F.ex
  refine fn_of lk hcd S len fun A outer s H vs Q E hr hsp => ?_
  obtain ⟨t, h, q⟩ := hbody cdv A outer s H vs Q E hr hsp
  exact ⟨t, h.h, q⟩
structure MakeX (P : Program) (w : World) (K : PySem.W.Frag) (mg : Str → Option Value) (base : Heap) (x : Str) (C : Addr) (k : Nat) (ps : List Str) (sp : Sp) : Prop where
  ex : ∃ f fd, FnOk P w K mg base (CXE P w) k f fd ps sp ∧ Mk K C f ∧ mg x = some (.ref C) ∧ Binds K fd ps []
section
variable {X : Cx} {e : Expr} {te : TE} {pos : Pos}
theorem je_fmt (h : JE X e te) : JE X (.FormattedValue e (-1) none pos) (tFmt te) := ⟨pe_fmt h.h⟩
inductive JEs (X : Cx) : List Expr → List TE → Prop
  | nil : JEs X [] []
  | cons {e : Expr} {es : List Expr} {t : TE} {ts : List TE} : JE X e t → JEs X es ts → JEs X (e :: es) (t :: ts)
theorem JEs.h {es : List Expr} {ts : List TE} (h : JEs X es ts) : PEs X es ts := by
  induction h with
  | nil => exact .nil
  | cons a _ ih => exact .cons a.h ih
theorem je_join {e1 e2 : Expr} {es : List Expr} {ts : List TE} (h : JEs X (e1 :: e2 :: es) ts) : JE X (.JoinedStr (e1 :: e2 :: es) pos) (tJoin Str.empty ts) := ⟨pe_join h.h⟩
theorem js_raise {x : Str} {C : Addr} {bm bmN : List Value} {newId B Bn nid initId inN : String} {np cpos : Pos} {T : Hp → Prop} {name : Str} {scope : Scope} {a : Addr} {cd : Value} (he : JE X e te) (ht : Throws X C T) (ex : PySem.W.nsIn X.K mainGlobals x = some (some (.ref C))) (q : PySem.W.excIn X.K C bm newId = true)
    (Fn : ExcBaseFacts Bn newId inN bmN) (hBn : bm.contains (.type Bn) = true) (FB : ExcBaseFacts B nid initId bm) (hc : X.calm = true) (hen : X.env = envOf name scope X.env.locals a cd) (hk : scope.kind = .function) (hx : scope.names.lookup x = some .globalImplicit)
    (hd : (x == ("__debug__" : Str)) = false := by decide) (hs : starEach [e] X.env = [(false, eval e X.env)] := by rfl) : JS X (.Raise (some (.Call (.Name x np) [e] [] cpos)) none pos) (tRaise te T) := ⟨ps_raise he.h ht ex q Fn hBn FB hc hen hk hx hd hs⟩
end
section
variable {X : Cx} {k i j : Nat} {C S Cn : Addr} {ps : List Str} {sp : Sp} {x told n fld Sx : Str} {p tp ap np cp apos hpos pos : Pos} {e : Expr} {es : List Expr} {t : TA} {bmC bmS : List Value} {b0 : Stmt} {suite : List Stmt} {ts : TS}
end
end L2
namespace L2
open PySem PySem.Spec PyProof.Rows PySem.SeqAt
section
variable {X : Cx}
theorem bls_read {h : Heap} : ∀ (bs : List Bool) (vs : List Value), Vals (bs.map V.bl) vs → ∃ as, ReadsAll h vs (bs.map PyData.bool) as
  | [], vs, r => by
    cases r
    exact ⟨_, .nil⟩
  | b :: bs, vs, r => by
    cases r with
    | cons r1 r2 =>
      obtain ⟨as, ra⟩ := bls_read bs _ r2
      cases r1
      exact ⟨_, .cons (.bool b) ra⟩
def rEqB (K : PySem.W.Frag) : R2 := fun x y H Q => ∃ (p p2 : Addr) (bs : List Bool), x = .ref p ∧ y = .ref p2 ∧ SqT K H p (bs.map V.bl) ∧ SqT K H p2 (bs.map V.bl) ∧ shaped (.tuple (bs.map PyData.bool)) = true ∧ Q (.bl true) H
end
end L2
namespace L2
open PySem PySem.Spec PyProof.Rows
end L2
namespace XD
open PySem PyProof PyProof.Rows
/-- just made, in no frame yet -/
def Fresh (base : Heap) (l : List Env) (e : Addr) (cl : Value) (hp : Heap) : Prop := base.StaysIn hp ∧ base.get? e = none ∧ hp.FunFrames base l ∧ ∃ oe vs, hp.get? e = some oe ∧ oe.cls = cl ∧ oe.dict = none ∧ oe.data = .fields vs ∧ vs[1]? = some .none
/-- somewhere in our frame: out of a callee, noted already, or just made -/
def Flies (base : Heap) (l : List Env) (L e : Addr) (cl : Value) (hp : Heap) : Prop := Fly base l e cl .none hp ∨ Fly base l e cl (rawInt L) hp ∨ Fresh base l e cl hp
section
variable {M : Model} {A : Around} {E : Value → Shared → Prop} {z : Shared} {base : Heap} {en : Env} {l : List Env} {L e : Addr} {Q : Unit → Shared → Prop}
theorem note {C : Value} (fr : A.frames = some (en :: l)) (ef : en.frame = some L) (R : Flies base (en :: l) L e C z.heap) (k : ∀ h', Fly base (en :: l) e C (rawInt L) h' → z.heap.UpToSlots h' → Q () { z with heap := h' }) : wpAny M A (noteFrame (.ref e) en) Q E z := by
  rcases R with R | R | R
  · exact looks fr ef R k
  · have R0 := R
    obtain ⟨kb, be, ff, oe, vs, T, oT, ts, he, hc, dt, h1, bT, ne, hT, dT, h3⟩ := R
    unfold noteFrame
    simp only [ef]
    refine wpAny_bind (wpAny_field he dt h1 ?_)
    have tnn : (Value.ref T != Value.none) = true := by simp
    rw [if_pos tnn]
    refine wpAny_bind (wpAny_field hT dT h3 ?_)
    rw [if_pos (beq_self_eq_true _)]
    exact wpAny_pure (k z.heap R0 fun b o q _ => ⟨o.slots, q⟩)
  · obtain ⟨kb, be, ff, oe, vs, he, hc, hd, dt, h1⟩ := R
    unfold noteFrame
    simp only [ef]
    refine wpAny_bind (wpAny_field he dt h1 ?_)
    rw [if_neg (show ¬ ((Value.none != Value.none) = true) from by decide)]
    refine entry fr ff ef he kb be hd dt (Array.getElem?_eq_some_iff.mp h1).1 fun h' F u => k h' ?_ u
    rw [hc] at F
    exact F
/-- the flight is written, whichever -/
theorem flightTo {cl fl : Value} {fo : Option Addr} (R : Fly base l e cl fl z.heap) (k : ∀ h', Fly base l e cl (fo.elim Value.none fun f => rawInt f) h' → z.heap.UpToSlots h' → Q () { z with heap := h' }) : wpAny M A (setFlight (.ref e) fo) Q E z := by
  obtain ⟨kb, be, ff, oe, vs, T, oT, ts, he, hc, dt, h1, bT, ne, hT, dT, h3⟩ := R
  have z3 : 3 < ts.size := (Array.getElem?_eq_some_iff.mp h3).1
  unfold setFlight
  refine wpAny_bind (wpAny_field he dt h1 ?_)
  have tnn : (Value.ref T != Value.none) = true := by simp
  rw [if_pos tnn]
  have ot : ∀ b, b ≠ T → (z.heap.update T (Obj.mapFields (·.setIfInBounds 3 (fo.elim Value.none fun f => rawInt f)))).get? b = z.heap.get? b := fun b n => Heap.get?_update_other _ _ (Ne.symm n)
  have nr : ∀ b o, z.heap.get? b = some o → (∀ vs, o.data ≠ .fields vs) → b ≠ T := fun b o q nf y => by
    rw [y, hT] at q
    cases q
    exact nf ts dT
  refine wpAny_setField hT dT z3 (k _ ⟨fun b o q => (ot b fun y => by rw [y, bT] at q; cases q).trans (kb b o q), be, ff.of_keeps fun b o q nf => ⟨o, (ot b (nr b o q nf)).trans q, rfl⟩, ?_⟩ fun b o q nf => ⟨o.slots, (ot b (nr b o q nf)).trans q⟩)
  exact ⟨oe, vs, T, _, _, (ot e (Ne.symm ne)).trans he, hc, dt, h1, bT, ne, Heap.get?_update_self _ hT (Obj.isFreed_of_fields (Obj.data_mapFields dT _)), Obj.data_mapFields dT _, by simp [z3]⟩
/-- behind a block of its own: the exception has an entry, and its flight is ours again -/
theorem back {cl : Value} (ef : en.frame = some L) (R : Fly base l e cl (rawInt L) z.heap) (k : ∀ h', Fly base l e cl (rawInt L) h' → z.heap.UpToSlots h' → E (.ref e) { z with heap := h' }) : cameBackBy M A en E (.ref e) z := by
  have R0 := R
  obtain ⟨kb, be, ff, oe, vs, T, oT, ts, he, hc, dt, h1, bT, ne, hT, dT, h3⟩ := R
  unfold cameBackBy
  refine wpAny_bind (wpAny_field he dt h1 ?_)
  have tnn : ¬ (Value.ref T == Value.none) = true := by simp
  rw [if_neg tnn]
  rw [ef]
  exact flightTo (fo := some L) R0 k
end
end XD
namespace L2
open PySem PySem.Spec PyProof.Rows
/-- what lies around an exception in flight -/
structure Core (P : Program) (w : World) (st : List Env) (H : Hp) (s : Shared) (ea : Addr) (B : Heap) (H' : Hp) (s' : Shared) : Prop where
  os : s'.os = s.os
  bare : AllBare s'.gens
  un : Un (frs st) [] H H' s.heap s'.heap
  ok : HOk P w H' s'.heap
  tr : ∀ b o, s'.heap.get? b = some o → H' b ≠ none → B.get? b = some o
  old : ∀ b o, s.heap.get? b = some o → H b = none → b ∉ frs st → B.get? b = some o
  th : ∀ b o, s.heap.get? b = some o → b ∉ frs st → ∃ o', B.get? b = some o'
  hn : H' ea = none
theorem nexE : ∀ b : Addr, b ∉ ([] : List Addr) := fun b z => by cases z
theorem Core.step {X : Cx} {pins : List (Addr × Obj)} {σ : St} {H1 H' : Hp} {s1 s' : Shared} {ea : Addr} {B h5 : Heap} (c : Core X.prog X.w X.stack H1 s1 ea B H' s') (I : Inv X pins σ H1 s1) (st : B.StaysIn h5) (us : s'.heap.UpToSlots h5) :
    Core X.prog X.w X.stack H1 s1 ea B H' { s' with heap := h5 } := by
  have sl : ∀ b o, s1.heap.get? b = some o → H1 b = none → b ∈ frs X.stack → ∃ sl, h5.get? b = some { o with slots := sl } := fun b o q n hb => by
    obtain ⟨x, q2⟩ := c.un.slot b o q n hb (nexE b)
    obtain ⟨_, o2, ho2, nf⟩ := I.stack.mem hb
    rw [q] at ho2
    cases ho2
    obtain ⟨y, q3⟩ := us b _ q2 nf
    exact ⟨y, q3⟩
  refine ⟨c.os, c.bare, ⟨fun b o q n hb _ => st b o (c.old b o q n hb), fun b o q n hb _ => sl b o q n hb, c.un.free, fun b o q _ => ?_, c.un.tups, c.un.frzs, c.un.tbls⟩, HOk.inside c.ok c.tr st, fun b o q n => ?_, c.old, c.th, c.hn⟩
  · by_cases z : b ∈ frs X.stack
    · obtain ⟨_, e⟩ := sl b o q (I.stkFree b z) z
      exact ⟨_, e⟩
    · obtain ⟨o', e⟩ := c.th b o q z
      exact ⟨o', st b o' e⟩
  · cases e2 : H' b with
    | none => exact absurd e2 n
    | some u =>
      obtain ⟨o1, q1⟩ := (c.ok b u e2).some
      have q2 := c.tr b o1 q1 n
      have q : h5.get? b = some o := q
      rw [st b o1 q2] at q
      cases q
      exact q2
/-- an exception in our frame, wherever it stands; E what is wanted of it -/
def XI (X : Cx) (E : XK) : Value → Shared → Prop := fun e s' => ∃ (pins : List (Addr × Obj)) (σ : St) (H1 : Hp) (s1 : Shared) (ea C : Addr) (B : Heap) (H' : Hp), e = .ref ea ∧ Inv X pins σ H1 s1 ∧ Core X.prog X.w X.stack H1 s1 ea B H' s' ∧ XD.Flies B X.stack X.env.locals ea (.ref C) s'.heap ∧ E (.ref C) none H'
section
variable {X : Cx} {E : XK}
theorem passI : Passes (CXE X.prog X.w) (X.wish (XI X E)) E := by
  intro pins σ H1 s1 e s' I cx
  obtain ⟨ea, C, B, H', rfl, os, bare, un, ok, fly, tr, old, th, hn, hE⟩ := cx
  exact ⟨pins, σ, H1, s1, ea, C, B, H', rfl, I.unwish, ⟨os, bare, un, ok, tr, old, th, hn⟩, .inl fly, hE⟩
theorem loopI (stk : X.stack = X.env :: X.outer) (frm : X.env.frame = some X.env.locals) : PassesOwn (model X.prog X.w) X.A X.env (XI X E) := by
  rintro e s' ⟨pins, σ, H1, s1, ea, C, B, H', rfl, I, c, fl, hE⟩
  have fr : X.A.frames = some (X.env :: X.outer) := by rw [← stk]; exact I.ok.frames
  unfold notedBy
  rw [stk] at fl
  refine XD.note fr frm fl fun h4 F4 u4 => ?_
  refine XD.back (z := { s' with heap := h4 }) frm F4 fun h5 F5 u5 => ?_
  exact ⟨pins, σ, H1, s1, ea, C, B, H', rfl, I, c.step I F5.1 (u4.trans u5), .inr (.inl (by rw [stk]; exact F5)), hE⟩
theorem throwI {C : Addr} (stk : X.stack = X.env :: X.outer) (frm : X.env.frame = some X.env.locals) : Throws (X.wish (XI X E)) C (fun H1 => E (.ref C) none H1) := by
  intro pins σ H1 s2 h' e vs I hx hE
  have I := I.unwish
  have fr := I.stack
  have nof : ∀ b, b ∈ frs X.stack → H1 b = none := I.stkFree
  have hin : ∀ env ∈ X.stack, ∀ b, env.frame = some b → b ∈ X.stack.filterMap (·.frame) := fun env he b hb => List.mem_filterMap.mpr ⟨env, he, hb⟩
  have hB : ∀ b o, s2.heap.get? b = some o → b ∉ frs X.stack → (PySem.W.hideAll s2.heap (X.stack.filterMap (·.frame))).get? b = some o := fun b o q n => PySem.W.hideAll_get _ q n
  have kb : (PySem.W.hideAll s2.heap (X.stack.filterMap (·.frame))).StaysIn s2.heap := fun b o q => PySem.W.of_hideAll _ q
  have ff := PySem.W.funFrames_hide fr hin
  have tr : ∀ b o, s2.heap.get? b = some o → H1 b ≠ none → (PySem.W.hideAll s2.heap (X.stack.filterMap (·.frame))).get? b = some o := fun b o q n => hB b o q fun z => n (nof b z)
  have st : (PySem.W.hideAll s2.heap (X.stack.filterMap (·.frame))).StaysIn h' := fun b o q => hx.keeps b o (kb b o q)
  obtain ⟨tt, he, _, _⟩ := hx.there
  refine ⟨pins, σ, H1, s2, e, C, _, H1, rfl, I, ⟨rfl, I.bare, Un.kept hx.keeps, HOk.inside I.hok tr st, fun b o q n => ?_, fun b o q n hb => hB b o q hb, fun b o q hb => ⟨o, hB b o q hb⟩, ?_⟩, .inr (.inr ⟨st, PySem.W.fresh_of_stays kb hx.new, ff.of_keeps fun b o q _ => ⟨o, hx.keeps b o q, rfl⟩, _, _, he, rfl, rfl, rfl, rfl⟩), hE⟩
  · cases e2 : H1 b with
    | none => exact absurd e2 n
    | some u =>
      obtain ⟨o1, q1⟩ := (I.hok b u e2).some
      have q2 := tr b o1 q1 n
      have q : h'.get? b = some o := q
      rw [st b o1 q2] at q
      cases q
      exact q2
  · cases e2 : H1 e with
    | none => rfl
    | some u =>
      obtain ⟨o3, q3⟩ := (I.hok e u e2).some
      rw [hx.new] at q3
      cases q3
end
/-- it leaves the def's body -/
theorem leaveI {P : Program} {w : World} {K : PySem.W.Frag} {mg : Str → Option Value} {base : Heap} {N : List Str} {qual : Str} {scope : Scope} {f : Addr} {cd : Value} {A : Around} {outer : List Env} {s : Shared} {H : Hp} {E : XK} {e : Value} {s' : Shared}
    (h : XI (cxOf (CXE P w) P w K mg base N qual scope f cd A outer s H E) E e s') : (cxOf (CXE P w) P w K mg base N qual scope f cd A outer s H E).xe e s' := by
  obtain ⟨pins, σ, H1, s1, ea, C, B, H', rfl, I, c0, fl, hE⟩ := h
  have sub : ∀ b o, s.heap.get? b = some o → b ∉ frs outer → b ∉ frs (envOfC qual scope s.heap.objs.size f cd :: outer) := fun b o q n z => by
    rcases List.mem_cons.mp (I.stkSub b z) with z | z
    · have := Heap.lt_size q
      rw [z] at this
      exact absurd this (Nat.lt_irrefl _)
    · exact n z
  have sup : ∀ b, b ∈ frs outer → b ∈ frs (envOfC qual scope s.heap.objs.size f cd :: outer) := fun b z => by
    unfold frs at z ⊢
    rw [List.filterMap_cons]
    exact List.mem_cons_of_mem _ z
  show wpAny _ _ (leaving _ (.ref ea)) _ _ s'
  unfold leaving
  refine wpAny_bind (XD.note I.ok.frames rfl fl fun h4 F4 u4 => ?_)
  refine XD.flight (z := { s' with heap := h4 }) F4 fun h5 F5 u5 => ?_
  have c := c0.step I F5.1 (u4.trans u5)
  have bs := I.base
  refine ⟨ea, C, B, H', rfl, c.os.trans I.os, c.bare, ⟨fun b o q n hb _ => ?_, fun b o q n hb _ => ?_, fun b o q n _ => ?_, fun b o q _ => ?_, fun b xs q => c.un.tups b xs (bs.tups b xs q), fun b o u q => c.un.frzs b o u (bs.frzs b o u q), fun b ps q => ?_⟩, c.ok, F5.tail, c.tr, fun b o q n hb => ?_, fun b o q hb => ?_, c.hn, hE⟩
  · exact F5.1 b o (c.old b o (bs.keep b o q n hb (nexE b)) (bs.free b o q n (nexE b)) (sub b o q hb))
  · obtain ⟨x, q2⟩ := bs.slot b o q n hb (nexE b)
    obtain ⟨y, q3⟩ := c.un.slot b _ q2 (bs.free b o q n (nexE b)) (sup b hb) (nexE b)
    exact ⟨y, q3⟩
  · obtain ⟨o', q2⟩ := bs.there b o q (nexE b)
    exact c.un.free b o' q2 (bs.free b o q n (nexE b)) (nexE b)
  · obtain ⟨o', q2⟩ := bs.there b o q (nexE b)
    exact c.un.there b o' q2 (nexE b)
  · obtain ⟨m1, q1⟩ := bs.tbls b ps q
    obtain ⟨m2, q2⟩ := c.un.tbls b _ q1
    exact ⟨m1 ++ m2, by rw [q2, Array.append_assoc]⟩
  · exact c.old b o (bs.keep b o q n hb (nexE b)) (bs.free b o q n (nexE b)) (sub b o q hb)
  · obtain ⟨o', q2⟩ := bs.there b o q (nexE b)
    exact c.th b o' q2 (sub b o q hb)
end L2
namespace L2
open PySem PySem.Spec PyProof.Rows
/-- a def's body, the exceptions of its frame told by XI -/
abbrev cxI (P : Program) (w : World) (K : PySem.W.Frag) (mg : Str → Option Value) (base : Heap) (N : List Str) (qual : Str) (scope : Scope) (f : Addr) (cd : Value) (A : Around) (outer : List Env) (s : Shared) (H : Hp) (E : XK) : Cx :=
  (cxOf (CXE P w) P w K mg base N qual scope f cd A outer s H E).wish (XI (cxOf (CXE P w) P w K mg base N qual scope f cd A outer s H E) E)
theorem Fun.okI {P : Program} {w : World} {K : PySem.W.Frag} {mg : Str → Option Value} {base : Heap} {x qual : Str} {st : Stmt} {f : Addr} {fd : FuncData} {N ps : List Str} {k : Nat} {sp : Sp} (F : Fun K x qual st f fd) (S : FnScope N ps (defScope st)) (len : ∀ vs H Q E, sp vs H Q E → vs.length = ps.length)
    (hbody : ∀ (cdv : Value) (A : Around) (outer : List Env) (s : Shared) (H : Hp) (vs : List V) (Q : VK) (E : XK), Room k (A.deeper (envOfC qual (defScope st) s.heap.objs.size f cdv)) → sp vs H Q E →
      ∃ t, JSs (cxI P w K mg base N qual (defScope st) f cdv A outer s H E) (defBody st) t ∧ t { nx := fun _ H' => Q .non H', rt := Q } (start N vs) H) : FnOk P w K mg base (CXE P w) (k + 1) f fd ps sp := by
  refine F.okX S len fun cdv A outer s H vs Q E hr hsp => ?_
  obtain ⟨t, h, q⟩ := hbody cdv A outer s H vs Q E hr hsp
  exact ⟨t, ⟨fun pins s1 σ H1 D I hw => wpAny_mono (h.h pins s1 σ H1 D (I.wish _) hw) (fun _ _ q => q.unwish) fun _ _ z => leaveI z⟩, q⟩
section
variable {P : Program} {w : World} {K : PySem.W.Frag} {mg : Str → Option Value} {base : Heap} {N : List Str} {qual : Str} {scope : Scope} {f C : Addr} {cd : Value} {A : Around} {outer : List Env} {s : Shared} {H : Hp} {E : XK}
theorem passJ : Passes (CXE P w) (cxI P w K mg base N qual scope f cd A outer s H E) E := passI
theorem loopJ : PassesOwn (model P w) (cxI P w K mg base N qual scope f cd A outer s H E).A (cxI P w K mg base N qual scope f cd A outer s H E).env (cxI P w K mg base N qual scope f cd A outer s H E).xe := loopI (X := cxOf (CXE P w) P w K mg base N qual scope f cd A outer s H E) rfl rfl
theorem throwJ : Throws (cxI P w K mg base N qual scope f cd A outer s H E) C (fun H1 => E (.ref C) none H1) := throwI rfl rfl
theorem passN {X : Cx} : Passes (CXE X.prog X.w) X.nox E0 := by
  intro pins σ H1 s1 e s' I cx
  obtain ⟨ea, C, B, H', rfl, os, bare, un, ok, fly, tr, old, th, hn, hE⟩ := cx
  exact hE
end
structure DefX (P : Program) (w : World) (K : PySem.W.Frag) (mg : Str → Option Value) (base : Heap) (x : Str) (k : Nat) (ps : List Str) (sp : Sp) : Prop where
  ex : ∃ f fd, FnOk P w K mg base (CXE P w) k f fd ps sp ∧ mg x = some (.ref f) ∧ PySem.W.keepIn K (.ref f) = true ∧ Binds K fd ps []
structure MethX (P : Program) (w : World) (K : PySem.W.Frag) (mg : Str → Option Value) (base : Heap) (C : Addr) (m : Str) (k : Nat) (ps : List Str) (sp : Sp) : Prop where
  cl : Cls K C
  ex : ∃ f fd, FnOk P w K mg base (CXE P w) k f fd ps sp ∧ Meth K C m f ∧ Binds K fd ps []
section
variable {X : Cx} {C : Addr} {k : Nat} {ps : List Str} {sp : Sp} {x m : Str} {p pos apos ep : Pos} {e o : Expr} {es : List Expr} {ta : TE} {t : TA} {E : XK} {pins : List (Addr × Obj)} {σ : St}
theorem je_callX (hx : Passes (CXE X.prog X.w) X E) (D : DefX X.prog X.w X.K X.mg X.base x k ps sp) (hr : Room k X.A) (hg : Gl X x) (ha : JA X (e :: es) t) (hdb : (x == ("__debug__" : Str)) = false := by decide)
    (he : starEach (e :: es) X.env = (false, eval e X.env) :: starEach es X.env := by rfl) (hpl : (backTo pos (starEach es X.env)).any (·.1) = false := by rfl) : JE X (.Call (.Name x p) (e :: es) [] pos) (tCall sp [] E t) := by
  obtain ⟨f, fd, a, b, c, d⟩ := D.ex
  exact ⟨pe_call a hr hg b c d .nil hx ha.h hdb he hpl⟩
theorem je_methX {pl : Sem Bool} (hx : Passes (CXE X.prog X.w) X E) (D : MethX X.prog X.w X.K X.mg X.base C m k ps sp) (ho : JE X o ta) (hr : Room k X.A) (ha : JA X (e :: es) t)
    (hst : starEach (e :: es) X.env = (false, eval e X.env) :: starEach es X.env := by rfl) (hpl : (backTo pos (starEach es X.env)).any (·.1) = false := by rfl)
    (ht : eval (.Call (.Attribute o m apos) (e :: es) [] pos) X.env = (do
      let ov ← eval o X.env
      standAt apos.atName
      let (f, first) ← holding [ov] (getMethod ov m pl)
      callWith pos f first (backTo pos (starEach (e :: es) X.env)) (backToKw pos (keywordEach [] X.env))) := by rfl) : JE X (.Call (.Attribute o m apos) (e :: es) [] pos) (tMeth C m sp [] E ta t) := by
  obtain ⟨f, fd, a, b, c⟩ := D.ex
  exact ⟨pe_meth (pl := pl) ho.h D.cl b a hr c .nil hx ha.h hst hpl ht⟩
def tMakeX (C : Addr) (sp : Sp) (E : XK) (t : TA) : TE := fun σ H Q => t σ H fun vs H1 => ∀ x dx H2, H1 x = none → H2 x = some (.ins C dx []) → Same H1 H2 → sp (.ref x :: vs) H2 (fun v H3 => v = .non ∧ Q (.ref x) H3) E
theorem je_makeX (hx : Passes (CXE X.prog X.w) X E) (D : MakeX X.prog X.w X.K X.mg X.base x C k ps sp) (hr : Room (k + 1) X.A) (hg : Gl X x) (ha : JA X (e :: es) t) (hdb : (x == ("__debug__" : Str)) = false := by decide)
    (he : starEach (e :: es) X.env = (false, eval e X.env) :: starEach es X.env := by rfl) (hpl : (backTo pos (starEach es X.env)).any (·.1) = false := by rfl) : JE X (.Call (.Name x p) (e :: es) [] pos) (tMakeX C sp E t) := by
  obtain ⟨f, fd, a, b, c, d⟩ := D.ex
  refine ⟨fun pins s σ H Q I h => ?_⟩
  refine wpAny_Call_Name_kw (ld_glob I hg c ?_ hdb)
  refine PySem.W.callWith_K (h₀ := X.base) I.ok.mod.kin b.kp (thn (ha.h pos pins s σ H _ I h) fun us s1 ⟨vs, H1, I1, r, q⟩ => ⟨I1.kIn, ?_⟩) he hpl
  refine run_make (dvs := []) b a hr d .nil hx I1 r fun y dx ny ndy ne => ?_
  rw [List.append_nil]
  exact q y dx _ ny upd_same fun b o e => by
    rw [upd_ne (ne_of_none e ny), upd_ne (ne_of_none e ndy)]
    exact e
/-! ### a suite at known values of the names -/
structure JAt (X : Cx) (pins : List (Addr × Obj)) (σ : St) (sts : List Stmt) (t : Ends → Hp → Prop) : Prop where
  h : ∀ (s : Shared) (H : Hp) (D : Ends), Inv X pins σ H s → t D H → wpAny (model X.prog X.w) X.A (execs sts X.env) (SP X pins D) X.xe s
def PassAt (X : Cx) (pins : List (Addr × Obj)) (σ : St) (E : XK) : Prop := ∀ (H : Hp) (s : Shared) (e : Value) (s' : Shared), Inv X pins σ H s → CXE X.prog X.w X.stack H s E e s' → X.xe e s'
theorem at_if {c : Expr} {b1 b2 : List Stmt} {tc : TT} {t1 t2 : Ends → Hp → Prop} (hc : JT X c tc) (h1 : JAt X pins σ b1 t1) (h2 : JAt X pins σ b2 t2) : JAt X pins σ [.If c b1 b2 pos] (fun D H => tc σ H fun b H1 => if b = true then t1 D H1 else t2 D H1) := by
  refine ⟨fun s H D I h => ?_⟩
  refine wpAny_execs_cons (thn (wpAny_If (thn (hc.h pins s σ H _ I h) fun d s1 ⟨H1, I1, q1⟩ => ?_)) fun f s1 (q : SP X pins D f s1) => ?_)
  · cases d with
    | true => exact h1.h s1 H1 D I1 q1
    | false => exact h2.h s1 H1 D I1 q1
  · cases f with
    | next => exact wpAny_execs_nil q
    | ret v => exact q
    | brk => exact q
    | cont => exact q
theorem at_call (hx : PassAt X pins σ E) (D : DefX X.prog X.w X.K X.mg X.base x k ps sp) (hr : Room k X.A) (hg : Gl X x) (ha : JA X (e :: es) t) (hdb : (x == ("__debug__" : Str)) = false := by decide)
    (he : starEach (e :: es) X.env = (false, eval e X.env) :: starEach es X.env := by rfl) (hpl : (backTo pos (starEach es X.env)).any (·.1) = false := by rfl) (hs : swapsWith (.Call (.Name x p) (e :: es) [] pos) none ep.line X.env = pure false := by rfl) :
    JAt X pins σ [.Expr (.Call (.Name x p) (e :: es) [] pos) ep] (fun D H => tCall sp [] E t σ H fun _ H1 => D.nx σ H1) := by
  obtain ⟨f, fd, F, b, c, d⟩ := D.ex
  refine ⟨fun s H D I h => ?_⟩
  refine wpAny_execs_cons (wpAny_Expr_any (thn (Q := EP X pins σ fun _ H1 => D.nx σ H1) ?_ fun v s1 ⟨x, H1, I1, r1, q1⟩ => wpAny_execs_nil ⟨σ, H1, I1, q1⟩) I.quiet hs)
  refine wpAny_Call_Name_kw (ld_glob I hg b ?_ hdb)
  refine PySem.W.callWith_K (h₀ := X.base) I.ok.mod.kin c (thn (ha.h pos pins s σ H _ I h) fun us s1 ⟨vs, H1, I1, r, q⟩ => ⟨I1.kIn, ?_⟩) he hpl
  have q : sp (vs ++ []) H1 (fun _ H1 => D.nx σ H1) E := q
  rw [List.append_nil] at q
  have hl : (us ++ []).length = ps.length := by rw [List.append_nil, ← r.length]; exact F.len _ _ _ _ q
  have hb := d s1 us I1.kIn hl
  rw [List.append_nil] at hb
  refine wpAny_call (codeAny_mono (F.run X.A X.stack s1 H1 ⟨us, []⟩ us vs _ E hr I1.env0 hb r q) fun r s' hq => ?_)
  cases r with
  | error e => exact hx H1 s1 e s' I1 hq
  | ok fl =>
    cases fl with
    | ret u => exact I1.after hq
    | next => exact False.elim hq
    | brk => exact False.elim hq
    | cont => exact False.elim hq
theorem at_make (hx : PassAt X pins σ E) (D : MakeX X.prog X.w X.K X.mg X.base x C k ps sp) (hr : Room (k + 1) X.A) (hg : Gl X x) (ha : JA X (e :: es) t) (hdb : (x == ("__debug__" : Str)) = false := by decide)
    (he : starEach (e :: es) X.env = (false, eval e X.env) :: starEach es X.env := by rfl) (hpl : (backTo pos (starEach es X.env)).any (·.1) = false := by rfl) (hs : swapsWith (.Call (.Name x p) (e :: es) [] pos) none ep.line X.env = pure false := by rfl) :
    JAt X pins σ [.Expr (.Call (.Name x p) (e :: es) [] pos) ep] (fun D H => tMake C sp [] E t σ H fun _ H1 => D.nx σ H1) := by
  obtain ⟨f, fd, a, b, c, d⟩ := D.ex
  refine ⟨fun s H D I h => ?_⟩
  refine wpAny_execs_cons (wpAny_Expr_any (thn (make_at (pos := pos) b a hr hg c d .nil hx ha.h I h hdb he hpl) fun v s1 ⟨x, H1, I1, r1, q1⟩ => wpAny_execs_nil ⟨σ, H1, I1, q1⟩) I.quiet hs)
end
section
variable {X : Cx} {j : Nat} {S : Addr} {n Sx : Str} {np hpos pos : Pos} {bmS : List Value} {b0 : Stmt} {body suite : List Stmt} {ts : TS} {tb : XK → St → Ends → Hp → Prop}
/-- try: body, except S as n: the suite -/
def tTryE (K : PySem.W.Frag) (S : Addr) (j : Nat) (tb : XK → St → Ends → Hp → Prop) (ts : TS) : TS := fun D σ H =>
  tb (fun cls _ H' => ∃ Cn bmC, cls = .ref Cn ∧ ExcAt K Cn bmC ∧ bmC.contains (.ref S) = true ∧ ∀ ea, H' ea = none → ts { nx := fun σ2 H2 => D.nx (σ2.set j none) H2, rt := fun _ _ => False } (σ.set j (some (.ref ea))) (upd H' ea (.ext (IsX ea Cn)))) σ D H
theorem js_tryE (hN : X.N.Nodup) (hj : X.N[j]? = some n) (hl : X.env.scope.names.lookup n = some .local)
    (hb : ∀ (xe : Value → Shared → Prop) (pins : List (Addr × Obj)) (σ : St) (E : XK), PassAt (X.wish xe) pins σ E → JAt (X.wish xe) pins σ body (tb E σ))
    (hS : Gl X Sx) (mS : X.mg Sx = some (.ref S)) (aS : ExcAt X.K S bmS) (bS : bmS.contains (.type "BaseException") = true) (hsu : ∀ ea, JSs (X.mark (.ref ea)) (b0 :: suite) ts)
    (stk : X.stack = X.env :: X.outer) (frm : X.env.frame = some X.env.locals) (hdS : (Sx == ("__debug__" : Str)) = false := by decide) :
    JS X (.Try body [.ExceptHandler (some (.Name Sx np)) (some n) (b0 :: suite) hpos] [] [] pos) (tTryE X.K S j tb ts) := by
  refine ⟨fun pins s σ H D I h => ?_⟩
  refine wpAny_Try_except ?_
  generalize hxe : (fun (e : Value) (s₁ : Shared) => wpAny (model X.prog X.w) X.A (noteFrame e X.env) (fun _ s₂ => wpAny (model X.prog X.w) X.A (setFlight e none) (fun _ s₃ => wpAny (model X.prog X.w) X.A (handleBy e X.env [.ExceptHandler (some (.Name Sx np)) (some n) (b0 :: suite) hpos]) (SP X pins D) X.xe s₃) X.xe s₂) X.xe s₁) = xe
  have IW : Inv (X.wish xe) pins σ H s := I.wish xe
  refine thn ((hb xe pins σ _ ?_).h s H D IW h) fun fl s1 hq => ?_
  · intro H1 s1 ev s' I1 cx
    obtain ⟨ea, Cn, B, H', rfl, os, bare, un, ok, fly, tr, old, th, hn, Ce, bmC, ec, aC, inS, rest⟩ := cx
    cases ec
    show xe (.ref ea) s'
    rw [← hxe]
    have I1 : Inv X pins σ H1 s1 := I1.unwish
    have fr : X.A.frames = some (X.env :: X.outer) := by rw [← stk]; exact I.ok.frames
    have fly : XD.Fly B (X.env :: X.outer) ea (.ref Cn) .none s'.heap := by rw [← stk]; exact fly
    have new1 : s1.heap.get? ea = none := by
      cases q : s1.heap.get? ea with
      | none => rfl
      | some o =>
        exfalso
        by_cases z : ea ∈ frs X.stack
        · obtain ⟨_, o2, q2, nf⟩ := I1.stack.mem z
          obtain ⟨sl, q3⟩ := un.slot ea o2 q2 (I1.stkFree ea z) z (fun y => by cases y)
          obtain ⟨oe, vs, q4, _, _, dt⟩ := fly.there
          rw [q3] at q4
          cases q4
          exact nf vs dt
        · obtain ⟨o', q2⟩ := th ea o q z
          rw [fly.2.1] at q2
          cases q2
    refine XD.looks fr frm fly fun h4 F4 u4 => ?_
    refine XD.flight (z := { s' with heap := h4 }) F4 fun h5 F5 u5 => ?_
    have nw : ∀ h', XD.Fly B (X.env :: X.outer) ea (.ref Cn) .none h' → ObjOk X.prog X.w (upd H' ea (.ext (IsX ea Cn))) h' ea (.ext (IsX ea Cn)) := fun h' F' => by
      obtain ⟨oe, vs, q1, q2, q3, q4⟩ := F'.there
      refine ⟨⟨oe, vs, q1, q2, q3, q4⟩, ⟨oe, q1⟩, fun g1 g2 ⟨o, w, z1, z2, z3, z4⟩ kp => ⟨o, w, kp o z1, z2, z3, z4⟩⟩
    have I5 := land (h' := h5) I1 os bare un ok tr old th F5.1 (u4.trans u5) (.ext (IsX ea Cn)) hn new1 (nw h5 F5)
    obtain ⟨oe, vs, q1, q2, q3, q4⟩ := F5.there
    have mk5 := I5.mark (.ref ea)
    refine wpAny_handleBy_cons (codeAny_handlers_test (ld_glob mk5 hS mS ?_ hdS)) (by intro q; cases q)
    refine match_super I5.kIn aC aS q1 q2 bS inS ?_
    refine codeAny_handlers_suite_as (XD.flight (z := { s' with heap := h5 }) F5 fun h6 F6 u6 => ?_)
    have I6 := land (h' := h6) I1 os bare un ok tr old th F6.1 ((u4.trans u5).trans u6) (.ext (IsX ea Cn)) hn new1 (nw h6 F6)
    refine store_ok (X := X.mark (.ref ea)) (i := j) (v := .ref ea) (I6.mark (.ref ea)) hN hj (.inl hl) rfl (fun s7 I7 => ?_) (.inr hl)
    refine wpAny_mono ((hsu ea).h pins s7 _ _ _ I7 (rest ea hn)) (fun fl s8 q => ?_) fun _ _ y => y.elim
    cases fl with
    | next =>
      obtain ⟨σ8, H8, I8, q8⟩ := q
      have I9 : Inv X pins σ8 H8 s8 := ⟨I.ok, I8.os, I8.bare, I8.base, I8.loc, I8.cell, I8.free, I8.freeC, I8.pin, I8.hok, I8.len⟩
      exact goes_ok I9 hN hj hl fun s9 I10 => ⟨_, H8, I10, q8⟩
    | brk => obtain ⟨_, _, _, q⟩ := q; exact q.elim
    | cont => obtain ⟨_, _, _, q⟩ := q; exact q.elim
    | ret v => obtain ⟨_, _, _, _, _, q⟩ := q; exact q.elim
  · have hq := hq.unwish
    cases fl with
    | next => exact wpAny_execs_nil hq
    | ret v => exact hq
    | brk => exact hq
    | cont => exact hq
end
/-! ### a def that is called within an except suite -/
structure RoomM (k : Nat) (A : Around) : Prop where
  dp : A.depth + 3 * k + 5 < recursionLimit
  un : A.units + 16 * k + 200 < cLine
theorem Room.marked {k : Nat} {A : Around} {e : Value} (r : Room k A) : RoomM k (A.mark (some e)) := ⟨r.dp, r.un⟩
theorem RoomM.deeper {k : Nat} {A : Around} (r : RoomM (k + 1) A) (env : Env) : RoomM k (A.deeper env) :=
  ⟨by have := r.dp; show A.depth + 1 + 3 * k + 5 < _; omega, by have := r.un; show A.units + 3 + 16 * k + 200 < _; omega⟩
abbrev cxM (P : Program) (w : World) (K : PySem.W.Frag) (mg : Str → Option Value) (base : Heap) (N : List Str) (qual : Str) (scope : Scope) (f : Addr) (cd : Value) (A : Around) (outer : List Env) (s : Shared) (H : Hp) : Cx :=
  { cxOf CX0 P w K mg base N qual scope f cd A outer s H E0 with calm := false, xe := fun _ _ => False }
structure FnM (P : Program) (w : World) (K : PySem.W.Frag) (mg : Str → Option Value) (base : Heap) (k : Nat) (f : Addr) (fd : FuncData) (ps : List Str) (sp : Sp) : Prop where
  len : ∀ vs H Q E, sp vs H Q E → vs.length = ps.length
  run : ∀ (A : Around) (outer : List Env) (s : Shared) (H : Hp) (args : Args) (us : List Value) (vs : List V) (Q : VK), RoomM k A → Env0 P w K mg base A outer s H → BindsTo s fd args (ps.zip us) → Vals vs us → sp vs H Q E0 →
    codeAny (model P w) A (.call (.ref f) args) (CR CX0 outer P w H s Q E0) s
theorem Fun.okM {P : Program} {w : World} {K : PySem.W.Frag} {mg : Str → Option Value} {base : Heap} {x qual : Str} {st : Stmt} {f : Addr} {fd : FuncData} {N ps : List Str} {k : Nat} {sp : Sp} (F : Fun K x qual st f fd) (S : FnScope N ps (defScope st)) (len : ∀ vs H Q E, sp vs H Q E → vs.length = ps.length)
    (hbody : ∀ (cdv : Value) (A : Around) (outer : List Env) (s : Shared) (H : Hp) (vs : List V) (Q : VK), RoomM k (A.deeper (envOfC qual (defScope st) s.heap.objs.size f cdv)) → sp vs H Q E0 →
      ∃ t, JSs (cxM P w K mg base N qual (defScope st) f cdv A outer s H) (defBody st) t ∧ t { nx := fun _ H' => Q .non H', rt := Q } (start N vs) H) : FnM P w K mg base (k + 1) f fd ps sp := by
  obtain ⟨oc, od, kV, doc, pm, an, cdv, ct, osl, rfl, lk, hcd⟩ := F.ex
  refine ⟨len, fun A outer s H args us vs Q hr e0 hb r hsp => ?_⟩
  have hl := len _ _ _ _ hsp
  have KX : K.In s.heap := e0.mod.kin.keeps fun b o e => (e0.bs b o e).1
  have lim : s.heap.NoLimit := e0.mod.nolimit.keeps fun b o e => (e0.bs b o e).1
  have hkind : ∀ y ∈ ps.zip us, (defScope st).names.lookup y.1 = some .local ∨ ((defScope st).names.lookup y.1 = some .cell ∧ ((cellsFrom (s.heap.objs.size + 1) (defScope st).names []).lookup y.1).isSome = true) := fun ⟨n, v⟩ hy => by
    rcases S.par n (List.of_mem_zip hy).1 with q | q
    · exact .inl q
    · exact .inr ⟨q, PySem.W.cellsFrom_some _ _ _ (.inl q)⟩
  refine codeAny_call_function (by have := hr.dp; omega) (KX _ _ lk) rfl S.co S.gen rfl (PySem.W.codeRec_of KX hcd) (hb _ _ _ _ ?_)
  refine wpAny_newFunctionEnv_cells S.kind hkind fun env he s1 x => ?_
  subst he
  refine ⟨lim.keeps x.toInCall.keep, codeAny_func ?_⟩
  obtain ⟨t, ht, hq⟩ := hbody cdv A outer s H vs Q (hr.deeper _) hsp
  have J : Inv (cxOf CX0 P w K mg base N qual (defScope st) f cdv { A with handled := none } outer s H E0) [] (start N vs) H s1 := inv_start S rfl ⟨e0.frames, e0.mod, e0.bs, e0.bsz, e0.funs, e0.frf, e0.hok, e0.bare⟩ hl r x
  have I : Inv (cxM P w K mg base N qual (defScope st) f cdv A outer s H) [] (start N vs) H s1 :=
    ⟨⟨J.ok.mod, J.ok.kind, J.ok.glob, J.ok.blt, J.ok.above, J.ok.inj, J.ok.has, J.ok.cab, fun z => (by cases z), Around.frames_deeper e0.frames, J.ok.stk, J.ok.exf, J.ok.bs, J.ok.bsz, J.ok.noex, J.ok.exfs, J.ok.funs, J.ok.frf⟩, J.os, J.bare, J.base, J.loc, J.cell, J.free, J.freeC, J.pin, J.hok, J.len⟩
  refine wpAny_mono (ht.h [] s1 (start N vs) H _ I hq) (fun fl s' hs => ?_) fun e s' hs => False.elim hs
  have fin : ∀ {σ' : St} {H' : Hp} {v : V} {u : Value}, Inv (cxM P w K mg base N qual (defScope st) f cdv A outer s H) [] σ' H' s' → RelV v u → Q v H' → CE outer P w H s Q u s' :=
    fun {σ' H' v u} J rv q => ⟨v, H', J.os, J.bare, J.base, J.hok, rv, q⟩
  cases fl with
  | ret u =>
    obtain ⟨v, σ', H', J, rv, q⟩ := hs
    exact fin J rv q
  | next =>
    obtain ⟨σ', H', J, q⟩ := hs
    exact fin (v := V.non) (u := Value.none) J rfl q
  | brk =>
    obtain ⟨_, _, _, q⟩ := hs
    exact False.elim q
  | cont =>
    obtain ⟨_, _, _, q⟩ := hs
    exact False.elim q
structure DefM (P : Program) (w : World) (K : PySem.W.Frag) (mg : Str → Option Value) (base : Heap) (x : Str) (k : Nat) (ps : List Str) (sp : Sp) : Prop where
  ex : ∃ f fd, FnM P w K mg base k f fd ps sp ∧ mg x = some (.ref f) ∧ PySem.W.keepIn K (.ref f) = true ∧ Binds K fd ps []
theorem je_callM {X : Cx} {k : Nat} {ps : List Str} {sp : Sp} {x : Str} {p pos : Pos} {e : Expr} {es : List Expr} {t : TA} (D : DefM X.prog X.w X.K X.mg X.base x k ps sp) (hr : RoomM k X.A) (hg : Gl X x) (ha : JA X (e :: es) t) (hdb : (x == ("__debug__" : Str)) = false := by decide)
    (he : starEach (e :: es) X.env = (false, eval e X.env) :: starEach es X.env := by rfl) (hpl : (backTo pos (starEach es X.env)).any (·.1) = false := by rfl) : JE X (.Call (.Name x p) (e :: es) [] pos) (tCall sp [] E0 t) := by
  obtain ⟨f, fd, F, b, c, d⟩ := D.ex
  refine ⟨fun pins s σ H Q I h => ?_⟩
  refine wpAny_Call_Name_kw (ld_glob I hg b ?_ hdb)
  refine PySem.W.callWith_K (h₀ := X.base) I.ok.mod.kin c (thn (ha.h pos pins s σ H _ I h) fun us s1 ⟨vs, H1, I1, r, q⟩ => ⟨I1.kIn, ?_⟩) he hpl
  have q : sp (vs ++ []) H1 Q E0 := q
  rw [List.append_nil] at q
  have hl : (us ++ []).length = ps.length := by rw [List.append_nil, ← r.length]; exact F.len _ _ _ _ q
  have hb := d s1 us I1.kIn hl
  rw [List.append_nil] at hb
  refine wpAny_call (codeAny_mono (F.run X.A X.stack s1 H1 ⟨us, []⟩ us vs _ hr I1.env0 hb r q) fun r s' hq => ?_)
  cases r with
  | error e => exact False.elim hq
  | ok fl =>
    cases fl with
    | ret u => exact I1.after hq
    | next => exact False.elim hq
    | brk => exact False.elim hq
    | cont => exact False.elim hq
end L2
namespace L2
open PySem PySem.Spec PyProof.Rows PySem.SeqAt
section
variable {X : Cx}
theorem vals_of : ∀ (xs : List V) (us : List Value), xs.length = us.length → (∀ (i : Nat) (x : V) (u : Value), xs[i]? = some x → us[i]? = some u → RelV x u) → Vals xs us
  | [], [], _, _ => .nil
  | [], _ :: _, hle, _ => by cases hle
  | _ :: _, [], hle, _ => by cases hle
  | x :: xs, u :: us, h, f => .cons (f 0 x u rfl rfl) (vals_of xs us (by simpa using h) fun i y z a b => f (i + 1) y z (by simpa using a) (by simpa using b))
/-! ### range as a value, list(range(n)) -/
def rRangeV : List V → Hp → VK → Prop := fun xs H Q => ∃ n, xs = [.int n] ∧ ∀ p H2, H p = none → H2 p = some (.rng 0 n) → Same H H2 → Q (.ref p) H2
theorem call_rangeV : CallR X (.type "range") rRangeV := by
  intro pins s σ H xs us Q I r h
  obtain ⟨n, rfl, q⟩ := h
  obtain ⟨u, rfl, t, rfl⟩ := vals1 r
  refine call_range_1 ⟨.ref s.heap.objs.size, _, I.laid (t' := _) (fun b u e => Heap.get?_push_of_some _ e) (Nat.le_refl _) (show ObjOk X.prog X.w _ _ _ (.rng 0 n) from ⟨_, _, _, Heap.get?_push_size _ rfl⟩), rfl, q _ _ (I.hok.fresh (Nat.le_refl _)) upd_same (same_new (I.hok.fresh (Nat.le_refl _)) _)⟩
def rListR : List V → Hp → VK → Prop := fun xs H Q => ∃ p n, xs = [.ref p] ∧ H p = some (.rng 0 n) ∧ 0 ≤ n ∧ n ≤ 1000 ∧ NewL H Q ((List.range n.toNat).map fun k => V.int (k : Nat))
theorem call_list_rng (hc : X.calm = true) : CallR X (.type "list") rListR := by
  intro pins s σ H xs us Q I r h
  obtain ⟨p, n, rfl, hp, h0, h1, q⟩ := h
  obtain ⟨u, rfl, rx⟩ := vals1 r
  cases rx
  obtain ⟨t, u, v, e⟩ := I.hok p _ hp
  refine call_list_range (I.ok.hd hc) (show IsRange s.heap p 0 n 1 t u v from e) (small_one (by omega) (by omega) (by omega) (by omega)) (n := n.toNat) (by rw [rangeSize_one]; split <;> omega) (by omega) fun h' tk acc' c' kp hS items => ?_
  have hl : acc'.toList.length = n.toNat := by rw [Array.length_toList]; exact items.1
  refine ⟨.ref s.heap.objs.size, _, I.laid (t' := tk) kp (Nat.le_refl _) (show ObjOk X.prog X.w _ h' _ (.lst ((List.range n.toNat).map fun k => V.int (k : Nat))) from ⟨?_, acc'.toList, c', vals_of _ _ ?_ fun i x u hx hu => ?_, by simpa using hS⟩), rfl, q.upd _ (I.hok.fresh (Nat.le_refl _))⟩
  · rw [List.length_map, List.length_range, sizeLine_eq]
    omega
  · rw [List.length_map, List.length_range, hl]
  · obtain ⟨t9, e9⟩ := items.2 i u (by simpa using hu)
    rw [List.getElem?_map] at hx
    obtain ⟨k, hk, rfl⟩ := Option.map_eq_some_iff.mp hx
    obtain ⟨hk1, hk2⟩ := List.getElem?_eq_some_iff.mp hk
    rw [List.getElem_range] at hk2
    subst hk2
    subst e9
    exact ⟨t9, by rw [Int.mul_one, Int.zero_add]⟩
theorem distinct_le {ns : List Int} : (distinct ns).length ≤ ns.length := firstMet_length_le _ _
/-! ### list.insert -/
def rInsertS : V → List V → Hp → VK → Prop := fun x vs H Q => ∃ l xs i y, x = .ref l ∧ vs = [.int i, y] ∧ H l = some (.lst xs) ∧ 0 ≤ i ∧ i.toNat ≤ xs.length ∧ xs.length ≤ 1000 ∧ ∀ H2, H2 l = some (.lst (xs.take i.toNat ++ y :: xs.drop i.toNat)) → (∀ b o, b ≠ l → H b = some o → H2 b = some o) → Q .non H2
theorem mt_insertS : MtM X "list.insert" rInsertS := by
  intro pins s σ H x vs v us Q I rx rv h
  obtain ⟨l, xs, i, y, rfl, rfl, hH, i0, i1, hz, q⟩ := h
  cases rx
  cases rv with
  | cons r1 rv =>
    obtain ⟨u, rfl, ru⟩ := vals1 rv
    obtain ⟨t, rfl⟩ := r1
    obtain ⟨z, its, n, r, hl, e⟩ := I.lstM hH
    have sl := sizeLine_eq
    refine call_meets F.slot_list_insert ⟨_, e, rfl⟩ F.entry_list_insert (F.args_list_insert_3 _ _ _) (AutoSeq1.list_insert_list_int_val_1 l its.toArray n i t u ?_ (by rw [List.size_toArray]; omega)) ⟨e, ?_⟩
    · rw [fitsIndex_both (by omega) (by omega)]
      decide
    refine ⟨.non, _, I.lset (its' := its.take i.toNat ++ u :: its.drop i.toNat) hH e ?_ ((r.take _).append (.cons ru (r.drop _))) ?_, rfl, q _ upd_same fun b o nb e => by rw [upd_ne nb]; exact e⟩
    · have hk : (if i < 0 then (i + (its.toArray.size : Int)).toNat else min i.toNat its.toArray.size) = i.toNat := by
        rw [if_neg (by omega), List.size_toArray]
        omega
      show (its.toArray.extract 0 (if i < 0 then (i + (its.toArray.size : Int)).toNat else min i.toNat its.toArray.size)).push u ++ its.toArray.extract (if i < 0 then (i + (its.toArray.size : Int)).toNat else min i.toNat its.toArray.size) = _
      rw [hk]
      apply Array.toList_inj.mp
      simp
      exact List.take_of_length_le (by rw [List.length_drop]; exact Nat.le_refl _)
    · rw [List.length_append, List.length_cons, List.length_take, List.length_drop]
      omega
/-! ### lists of bools are the same -/
def rEqBL (K : PySem.W.Frag) : R2 := fun x y H Q => ∃ (p p2 : Addr) (bs : List Bool), x = .ref p ∧ y = .ref p2 ∧ SqL K H p (bs.map V.bl) ∧ SqL K H p2 (bs.map V.bl) ∧ shaped (.list (bs.map PyData.bool)) = true ∧ Q (.bl true) H
theorem op_eqBL (hu : X.A.units + 64 < cLine) : OpR X (compareOp .Eq) (rEqBL X.K) := by
  intro pins s σ H x y v u Q I rx ry h
  obtain ⟨p, p2, bs, rfl, rfl, h1, h2, sh, q⟩ := h
  cases rx
  cases ry
  have rd : ∀ p, SqL X.K H p (bs.map V.bl) → ∃ as, Reads s.heap (.ref p) (.list (bs.map PyData.bool)) as := fun p hp => by
    obtain ⟨its, rv, pl, _⟩ := I.list hp
    obtain ⟨o, ho, hc, n, hd⟩ := pl.isList
    obtain ⟨as, ra⟩ := bls_read bs _ rv
    exact ⟨_, .list ho hc hd (by simpa using ra)⟩
  obtain ⟨as, ra⟩ := rd p h1
  obtain ⟨cs, rb⟩ := rd p2 h2
  refine eq_dataH ra rb sh sh hu ?_
  rw [eqv_refl _ (canLay_of_shaped sh)]
  exact ⟨.bl true, H, I, rfl, q⟩
end
end L2
namespace L2
open PySem PySem.Spec PyProof.Rows
/-- a list of new tuples -/
theorem comp_tups {lo : Int} {n : Nat} {js : List Nat} {te : TE} {σ : St} {H : Hp} {Q : VK} (F : Nat → List V) (hn : n ≤ sizeLine)
    (hs : ∀ (i : Nat) (H1 : Hp) (R : VK), i < n → (∀ t, H1 t = none → R (.ref t) (upd H1 t (.tup (F i)))) → te (some (.int (lo + (i : Nat))) :: seen js σ) H1 R)
    (hd : ∀ (ts : List Addr) (H1 : Hp), ts.length = n → Same H H1 → (∀ j t, ts[j]? = some t → H1 t = some (.tup (F j))) → NewL H1 Q (ts.map V.ref)) :
    ∃ W : Nat → Nat → List V → Hp → Prop, (∃ m, W 0 m [] H) ∧ ∀ i m ys H, W i m ys H → ys.length ≤ sizeLine ∧ (((Itr lo n).stop i H ∧ NewL H Q ys) ∨
    ((Itr lo n).go i H ∧ ∃ N : List V → Hp → Prop, (∀ ys' H', N ys' H' → ∃ m', m' < m ∧ W (i + 1) m' ys' H') ∧ ∀ v H', (Itr lo n).yld i H v H' → tYes (some v :: seen js σ) H' fun b H2 =>
      if b = true then te (some v :: seen js σ) H2 fun u H3 => N (ys ++ [u]) H3 else N ys H2)) := by
  refine ⟨fun i m ys H1 => ∃ ts : List Addr, ys = ts.map V.ref ∧ ts.length = i ∧ i ≤ n ∧ m = n - i ∧ Same H H1 ∧ ∀ j t, ts[j]? = some t → H1 t = some (.tup (F j)), ⟨_, [], rfl, rfl, Nat.zero_le _, rfl, Same.refl _, fun j t e => by simp at e⟩, ?_⟩
  rintro i m ys H1 ⟨ts, rfl, rfl, hle, rfl, sm, tp⟩
  refine ⟨by rw [List.length_map]; exact Nat.le_trans hle hn, ?_⟩
  by_cases hlt : ts.length < n
  · refine .inr ⟨hlt, fun ys' H' => ∃ t, ys' = ts.map V.ref ++ [.ref t] ∧ Same H1 H' ∧ H' t = some (.tup (F ts.length)), ?_, fun v H' y => ?_⟩
    · rintro ys' H' ⟨t, rfl, s2, ht⟩
      refine ⟨n - (ts.length + 1), by omega, ts ++ [t], by rw [List.map_append]; rfl, by rw [List.length_append]; rfl, hlt, rfl, sm.trans s2, fun j u e => ?_⟩
      rcases Nat.lt_or_ge j ts.length with z | z
      · rw [List.getElem?_append_left z] at e
        exact s2 _ _ (tp j u e)
      · rw [List.getElem?_append_right z] at e
        obtain ⟨e1, e2⟩ := List.getElem?_eq_some_iff.mp e
        have ej : j = ts.length := by
          rw [List.length_singleton] at e1
          omega
        subst ej
        rw [Nat.sub_self] at e
        cases e
        exact ht
    · obtain ⟨rfl, rfl⟩ := y
      show (if true = true then te (some (.int (lo + ((ts.length : Nat) : Int))) :: seen js σ) H' (fun u H3 => ∃ t, ts.map V.ref ++ [u] = ts.map V.ref ++ [.ref t] ∧ Same H' H3 ∧ H3 t = some (.tup (F ts.length))) else ∃ t, ts.map V.ref = ts.map V.ref ++ [.ref t] ∧ Same H' H' ∧ H' t = some (.tup (F ts.length)))
      exact iteT (hs _ _ _ hlt fun t nt => ⟨t, rfl, same_new nt _, upd_same⟩)
  · exact .inl ⟨Nat.not_lt.mp hlt, hd ts H1 (by omega) sm tp⟩
end L2
namespace L2
open PySem PySem.Spec PyProof.Rows
/-- raise C(..), also in a def that has cells -/
theorem js_raiseC {X : Cx} {e : Expr} {te : TE} {pos : Pos} {x : Str} {C : Addr} {bm bmN : List Value} {newId B Bn nid initId inN : String} {np cpos : Pos} {T : Hp → Prop} (he : JE X e te) (ht : Throws X C T) (ex : PySem.W.nsIn X.K mainGlobals x = some (some (.ref C))) (q : PySem.W.excIn X.K C bm newId = true)
    (Fn : ExcBaseFacts Bn newId inN bmN) (hBn : bm.contains (.type Bn) = true) (FB : ExcBaseFacts B nid initId bm) (hc : X.calm = true) (hg : Gl X x)
    (hd : (x == ("__debug__" : Str)) = false := by decide) (hs : starEach [e] X.env = [(false, eval e X.env)] := by rfl) : JS X (.Raise (some (.Call (.Name x np) [e] [] cpos)) none pos) (tRaise te T) := by
  refine ⟨fun pins s σ H D I h => ?_⟩
  have ha := pa_cons he.h (pa_nil (X := X)) hs
  have run := ha cpos pins s σ H (fun us H1 => us.length = 1 ∧ T H1) I h
  have O := own_of_mod I.mod.kin I.mod.glob ex q
  obtain ⟨tl, N, nm, qn, bs, hdct, sn, sub, ab, col, dd, k0, k1, k2, k3, k5, mN, hC, hN, hni, TT⟩ := O.obj
  refine wpAny_Raise_call_subU (C := C) (nm := nm) (q := qn) (N := N) (bs := bs) (bm := tl) (hdct := hdct) (sn := sn) (sub := sub) (ab := ab) (col := col) (dd := dd) (k0 := k0) (k1 := k1) (k2 := k2) (k3 := k3) (k5 := k5)
    Fn hBn FB (mN := mN) (TT.hasType FB.hasBase) (I.ok.hd hc) (by rw [hs]; rfl) hni (ld_glob I hg (PySem.W.mg_of I.mod.kin I.mod.glob ex) ⟨rfl, ?_⟩ hd)
  rw [hs] at run ⊢
  refine Calls.evalArgs_plain (wpAny_mono run (fun us s2 ⟨vs, H1, I1, r, q1⟩ => ⟨rfl, ?_, I1.bk _ _ hC, hN.keeps I1.bk, TT.keeps I1.bk, fun h' e' hx => ht pins σ H1 s2 h' e' us I1 hx q1.2⟩) fun _ _ y => y)
  have e1 := r.length
  rw [q1.1] at e1
  rw [← e1]
  decide
end L2
namespace S
open PySem L2

def top (i : Nat) : Stmt := PySem.Challenge.pw_spinsum_k14_each_refusal_its_own.main.body.getD i (.Pass ⟨0, 0, 0, 0⟩)
abbrev s_is_prime : Stmt := top 8
abbrev s_ask_rest : Stmt := top 9
abbrev s_ask_rest_above_nought : Stmt := top 10
abbrev s_Field___init__ : Stmt := inClass (top 11) 0
abbrev s_Field_plus : Stmt := inClass (top 11) 1
abbrev s_Field_times : Stmt := inClass (top 11) 2
abbrev s_Field_power : Stmt := inClass (top 11) 3
abbrev s_Field_inverse : Stmt := inClass (top 11) 4
abbrev s_Field_order : Stmt := inClass (top 11) 5
abbrev s_ask_rests : Stmt := top 13
abbrev s_ask_some : Stmt := top 14
abbrev s_worth : Stmt := top 15
abbrev s_sum_at : Stmt := top 16
abbrev s_ask_turn : Stmt := top 18
abbrev s_worths_at_powers : Stmt := top 19
abbrev s_turned : Stmt := top 20
abbrev s_turned_back : Stmt := top 21
abbrev s_worth_at : Stmt := top 22
abbrev s_ask_figures : Stmt := top 24
abbrev s_long_product : Stmt := top 25
abbrev s_ask_both : Stmt := top 28
abbrev s_ring_product : Stmt := top 29
abbrev s_plain_product : Stmt := top 30
abbrev s_ask_points : Stmt := top 31
abbrev s_with_gap_closed : Stmt := top 32
abbrev s_row_through : Stmt := top 33
abbrev s_law_cell_at : Stmt := top 35
abbrev s_law_which : Stmt := top 36
abbrev s_law_one_rest : Stmt := top 37
abbrev s_law_two : Stmt := top 38
abbrev s_law_row_rest : Stmt := top 39
abbrev s_law_no_row : Stmt := top 40
abbrev s_law_order : Stmt := top 41
abbrev s_law_no_root : Stmt := top 42
abbrev s_law : Stmt := top 43
/-! ### what the text is asked for -/
structure Txt (K : PySem.W.Frag) (mg : Str → Option Value) (C : Addr) : Prop where
  cl : Cls K C
  n_prime : NoAttr K C "prime"
  len : mg "len" = none
  range : mg "range" = none
  isinstance : mg "isinstance" = none
  int : mg "int" = none
  bool : mg "bool" = none
  list : mg "list" = none
  sorted : mg "sorted" = none
  set : mg "set" = none
  reversed : mg "reversed" = none
  sum : mg "sum" = none
  max : mg "max" = none
  min : mg "min" = none
  zip : mg "zip" = none
  abs : mg "abs" = none
  gp : ∃ t, mg "GREATEST_PRIME" = some (.int 997 t)
  mp : ∃ t, mg "MOST_POINTS" = some (.int 32 t)
/-- a field by the prime m stands at p -/
structure FieldAt (C : Addr) (H : Hp) (p : Addr) (m : Nat) : Prop where
  ob : ∃ dx, H p = some (.ins C dx [(("prime" : Str), V.int (m : Nat))])
  pr : NT.Pr m
  le : m ≤ 997
theorem look_prime (v : V) : ([(("prime" : Str), v)] : List (Str × V)).lookup ("prime" : Str) = some v := by
  rw [List.lookup_cons]
  simp
theorem FieldAt.same {C : Addr} {H H' : Hp} {p : Addr} {m : Nat} (h : FieldAt C H p m) (s : Same H H') : FieldAt C H' p m := by
  obtain ⟨dx, e⟩ := h.ob
  exact ⟨⟨dx, s _ _ e⟩, h.pr, h.le⟩
/-! ### promises -/
def spIsPrime : Sp := fun vs H Q _ => ∃ p : Nat, vs = [.int p] ∧ NT.Pr p ∧ p ≤ 997 ∧ Q (.bl true) H
def spAsk : Sp := fun vs H Q _ => ∃ m n : Int, vs = [.int m, .int n] ∧ 0 ≤ n ∧ n < m ∧ Q .non H
def spAskA : Sp := fun vs H Q _ => ∃ m n : Int, vs = [.int m, .int n] ∧ 0 < n ∧ n < m ∧ Q .non H
def spInit (C : Addr) : Sp := fun vs H Q _ => ∃ (p dx : Addr) (m : Nat), vs = [.ref p, .int m] ∧ H p = some (.ins C dx []) ∧ NT.Pr m ∧ m ≤ 997 ∧ ∀ H2, H2 p = some (.ins C dx [(("prime" : Str), V.int (m : Nat))]) → (∀ b o, b ≠ p → H b = some o → H2 b = some o) → Q .non H2
def spPlus (C : Addr) : Sp := fun vs H Q _ => ∃ (p : Addr) (m : Nat) (a b : Int), vs = [.ref p, .int a, .int b] ∧ FieldAt C H p m ∧ 0 ≤ a ∧ a < m ∧ 0 ≤ b ∧ b < m ∧ Q (.int ((a + b) % m)) H
def spTimes (C : Addr) : Sp := fun vs H Q _ => ∃ (p : Addr) (m : Nat) (a b : Int), vs = [.ref p, .int a, .int b] ∧ FieldAt C H p m ∧ 0 ≤ a ∧ a < m ∧ 0 ≤ b ∧ b < m ∧ Q (.int (a * b % m)) H
def spPower (C : Addr) : Sp := fun vs H Q _ => ∃ (p : Addr) (m : Nat) (a n : Int), vs = [.ref p, .int a, .int n] ∧ FieldAt C H p m ∧ 0 ≤ a ∧ a < m ∧ 0 ≤ n ∧ Q (.int (a ^ n.toNat % m)) H
def spInverse (C : Addr) : Sp := fun vs H Q _ => ∃ (p : Addr) (m : Nat) (a : Int), vs = [.ref p, .int a] ∧ FieldAt C H p m ∧ 0 < a ∧ a < m ∧ Q (.int (a ^ (m - 2) % m)) H
/-! ### the law's own defs -/
def spCell (K : PySem.W.Frag) : Sp := fun vs H Q _ => ∃ (a : Addr) (ns : List Int) (k : Int), vs = [.ref a, .int k] ∧ SqL K H a (ns.map V.int) ∧ 0 ≤ k ∧ Q (.int (ns.getD k.toNat 0)) H
def spWhole : Sp := fun vs H Q _ => ∃ i : Int, vs = [.int i] ∧ Q (.bl true) H
structure PrimeOf (c : Int) (p : Nat) : Prop where
  pr : NT.Pr p
  le : p ≤ 997
  small : 0 ≤ c → c < 20 → p = NT.tab.getD c.toNat 0
def spLPrime : Sp := fun vs H Q _ => ∃ c : Int, vs = [.int c] ∧ ∀ (p : Nat) (H' : Hp), PrimeOf c p → Same H H' → Q (.int p) H'
def spRests (K : PySem.W.Frag) : Sp := fun vs H Q _ => ∃ (a : Addr) (ns : List Int) (t m : Int) (p : Nat), vs = [.ref a, .int t, .int m, .int p] ∧ SqL K H a (ns.map V.int) ∧ 0 ≤ t ∧ 0 ≤ m ∧ m ≤ 100 ∧ 2 ≤ p ∧
  ∀ (l : Addr) (rs : List Int) (H' : Hp), rs.length = m.toNat → (∀ r ∈ rs, 0 ≤ r ∧ r < p) → Same H H' → H' l = some (.lst (rs.map V.int)) → H l = none → Q (.ref l) H'
def spLPower : Sp := fun vs H Q _ => ∃ (p : Nat) (a n : Int), vs = [.int p, .int a, .int n] ∧ 2 ≤ p ∧ p ≤ 997 ∧ 0 ≤ a ∧ a < p ∧ 0 ≤ n ∧ n ≤ 1000 ∧ Q (.int (a ^ n.toNat % p)) H
theorem nolook {m : Str} (v : V) (h : ¬ m = "prime") : ([(("prime" : Str), v)] : List (Str × V)).lookup m = none := by
  rw [List.lookup_cons]
  have : (m == ("prime" : Str)) = false := by simpa using h
  rw [this]
  rfl
def spLaw (K : PySem.W.Frag) : Sp := fun vs H Q _ => ∃ (a : Addr) (ns : List Int), vs = [.ref a] ∧ SqL K H a (ns.map V.int) ∧ ns.length ≤ 63 ∧ ∀ H', Q (.bl true) H'
section
variable {P : Program} {w : World} {K : PySem.W.Frag} {mg : Str → Option Value} {base : Heap} {C : Addr}
theorem pr_of {p d : Nat} (h2 : 2 ≤ p) (hd : p < d * d) (h : ∀ t, 2 ≤ t → t < d → p % t ≠ 0) : NT.Pr p := ⟨h2, fun t t2 tp z => by
  by_cases c : t < d
  · exact h t t2 c z
  · have e : t * (p / t) = p := Nat.mul_div_cancel' (Nat.dvd_of_mod_eq_zero z)
    have q2 : 2 ≤ p / t := by
      generalize p / t = w at e
      match w, e with
      | 0, e => omega
      | 1, e => omega
      | w + 2, _ => exact Nat.le_add_left 2 w
    have qd : p / t < d := by
      rcases Nat.lt_or_ge (p / t) d with y | y
      · exact y
      · have := Nat.mul_le_mul (Nat.not_lt.mp c) y
        omega
    exact h (p / t) q2 qd (by
      have : p % (p / t) = (t * (p / t)) % (p / t) := by rw [e]
      rw [this, Nat.mul_mod_left])⟩
def spIsPrimeG : Sp := fun vs H Q _ => ∃ n : Int, vs = [.int n] ∧ n ≤ 997 ∧ ∀ b : Bool, (b = true ↔ 2 ≤ n ∧ NT.Pr n.toNat) → Q (.bl b) H
theorem sc_is_prime : FnScope ["number", "part"] ["number"] (defScope s_is_prime) := ⟨rfl, rfl, rfl, by decide +kernel, rfl, by decide +kernel, by decide +kernel⟩
theorem ok_is_prime {f : Addr} {fd : FuncData} (F : Fun K "is_prime" "is_prime" s_is_prime f fd) : FnOk P w K mg base CX0 1 f fd ["number"] spIsPrimeG := by
  have nd := sc_is_prime.nd
  refine F.okJ sc_is_prime (fun vs H Q E h => ?_) (fun cdv A outer s H vs Q E hr h => ?_)
  · obtain ⟨p, rfl, _⟩ := h
    rfl
  obtain ⟨n, rfl, h9, q⟩ := h
  refine ⟨_, jss_cons (js_if (jt_cmpR op_lt (jv 0) je_int (nomark _)) (jss_one (js_ret je_bl))
    (jss_nil))
    (jss_cons (js_set (i := 1) nd rfl (Or.inl rfl) je_int)
    (jss_cons (js_while PassesOwn.never (jt_cmpR op_le (je_op op_mul (jv 1) (jv 1)) (jv 0) (nomark _))
    (jss_cons (js_if (jt_cmpR op_eq (je_op op_mod (jv 0) (jv 1)) je_int (nomark _)) (jss_one (js_ret je_bl))
    (jss_nil))
    (jss_one (js_aug (i := 1) nd rfl (Or.inl rfl) je_int ip_add))))
    (jss_one (js_ret je_bl)))), ?_⟩
  -- if number < 2
  refine ⟨_, rfl, _, _, rfl, rfl, _, rfl, ?_⟩
  refine ite2 (fun c => ?_) (fun c => ?_)
  · have c : n < 2 := of_decide_eq_true c
    exact q false ⟨fun z => (by cases z), fun z => by omega⟩
  have c : ¬ n < 2 := fun z => c (decide_eq_true z)
  obtain ⟨p, rfl⟩ : ∃ p : Nat, n = p := ⟨n.toNat, by omega⟩
  have ep : ((p : Nat) : Int).toNat = p := by omega
  -- while part * part <= number
  refine ⟨fun m σ H' => ∃ d : Nat, σ = [some (.int p), some (.int d)] ∧ H' = H ∧ m = 40 - d ∧ 2 ≤ d ∧ d ≤ 33 ∧ ∀ t, 2 ≤ t → t < d → p % t ≠ 0, ⟨_, 2, rfl, rfl, rfl, by decide, by decide, fun t h1 h2 => by omega⟩, ?_⟩
  rintro m σ H' ⟨d, rfl, rfl, rfl, h2, h3, hno⟩
  refine ⟨_, rfl, _, rfl, _, _, rfl, rfl, .inl ⟨by omega, by omega⟩, _, rfl, _, _, rfl, rfl, _, rfl, ?_⟩
  refine ite2 (fun c => ?_) (fun c => ?_)
  · have c : (d : Int) * d ≤ p := of_decide_eq_true c
    have c : d * d ≤ p := by exact_mod_cast c
    have d31 : d ≤ 31 := by
      rcases Nat.lt_or_ge d 32 with z | z
      · omega
      · have := Nat.mul_le_mul z z
        omega
    have dp : d < p := by
      have := Nat.mul_le_mul_right d h2
      omega
    refine ⟨fun σ' H2 => p % d ≠ 0 ∧ σ' = [some (.int p), some (.int ((d + 1 : Nat) : Int))] ∧ H2 = H', fun σ' H2 z => ⟨40 - (d + 1), by omega, d + 1, z.2.1, z.2.2, rfl, by omega, by omega, fun t t1 t2 => ?_⟩, ?_⟩
    · by_cases y : t = d
      · rw [y]; exact z.1
      · exact hno t t1 (by omega)
    -- if number % part == 0
    refine ⟨_, rfl, _, rfl, _, _, rfl, rfl, (by show (0 : Int) < d; omega), rfl, _, rfl, ?_⟩
    refine ite2 (fun c => ?_) (fun c => ?_)
    · have c : V.int ((p : Int) % d) = V.int 0 := of_decide_eq_true c
      have c : (p : Int) % d = 0 := V.int.inj c
      have c : p % d = 0 := by exact_mod_cast c
      refine q false ⟨fun z => (by cases z), fun z => ?_⟩
      rw [ep] at z
      exact absurd c (z.2.2 d h2 dp)
    · -- part += 1
      refine ⟨_, rfl, _, _, rfl, rfl, fun z => c (decide_eq_true (congrArg V.int ?_)), rfl, rfl⟩
      show (p : Int) % d = 0
      exact_mod_cast z
  · have c : ¬ (d : Int) * d ≤ p := fun z => c (decide_eq_true z)
    have c : p < d * d := by
      have : ((d * d : Nat) : Int) = (d : Int) * d := by push_cast; rfl
      omega
    exact q true ⟨fun _ => ⟨by omega, by rw [ep]; exact pr_of (by omega) c hno⟩, fun _ => rfl⟩
theorem at_getD {ns : List Int} {k : Int} (h0 : 0 ≤ k) (h : k < (ns.length : Int)) : atI (ns.map V.int) k = some (.int (ns.getD k.toNat 0)) := by
  have hk : k.toNat < ns.length := by omega
  have ek : k = ((k.toNat : Nat) : Int) := by omega
  have q : atI (ns.map V.int) ((k.toNat : Nat) : Int) = some (.int (ns.getD k.toNat 0)) := atI_nat (by rw [List.getElem?_map, List.getElem?_eq_getElem hk, List.getD_eq_getElem?_getD, List.getElem?_eq_getElem hk] <;> rfl)
  rw [← ek] at q
  exact q

theorem sc_law_cell_at : FnScope ["script", "k"] ["script", "k"] (defScope s_law_cell_at) := ⟨rfl, rfl, rfl, by decide +kernel, rfl, by decide +kernel, by decide +kernel⟩
theorem ok_law_cell_at {f : Addr} {fd : FuncData} (T : Txt K mg C) (F : Fun K "_law_cell_at" "_law_cell_at" s_law_cell_at f fd) : FnOk P w K mg base CX0 1 f fd ["script", "k"] (spCell K) := by
  have nd := sc_law_cell_at.nd
  refine F.okJ sc_law_cell_at (fun vs H Q E h => ?_) (fun cdv A outer s H vs Q E hr h => ?_)
  · obtain ⟨a, ns, k, rfl, _⟩ := h
    rfl
  obtain ⟨a, ns, k, rfl, hS, k0, q⟩ := h
  refine ⟨_, jss_cons (js_if (jt_cmpR op_lt (jv 1) (je_callB call_len_seq rfl T.len (by rfl) (ja_cons (jv 0) ja_nil)) (nomark _)) (jss_one (js_ret (je_ix ix_list (jv 0) (jv 1) (fun _ _ => rfl))))
    (jss_nil))
    (jss_one (js_ret je_int)), ?_⟩
  have hl : (ns.map V.int).length = ns.length := List.length_map _
  refine ⟨_, rfl, _, rfl, a, _, rfl, .inl hS, _, _, rfl, rfl, _, rfl, ?_⟩
  refine ite2 (fun c => ?_) (fun c => ?_)
  · have c : k < (((ns.map V.int).length : Nat) : Int) := of_decide_eq_true c
    rw [hl] at c
    exact ⟨_, rfl, _, rfl, a, _, _, _, rfl, rfl, hS, at_getD k0 c, q⟩
  · have c : ¬ k < (((ns.map V.int).length : Nat) : Int) := fun z => c (decide_eq_true z)
    rw [hl] at c
    have e : ns.getD k.toNat 0 = 0 := by
      rw [List.getD_eq_getElem?_getD, List.getElem?_eq_none (by omega)]
      rfl
    rw [e] at q
    exact q

abbrev bmV : List Value := [.type "ValueError", .type "Exception", .type "BaseException", .type "object"]
/-- one of the text's refusals -/
structure XC (K : PySem.W.Frag) (mg : Str → Option Value) (S : Addr) (x : Str) (C : Addr) : Prop where
  ns : PySem.W.nsIn K mainGlobals x = some (some (.ref C))
  ex : PySem.W.excIn K C bmV "ValueError.__new__" = true
  m : mg x = some (.ref C)
  lies : ExcAt K C (.ref S :: bmV)
  xc : XCls K C
  kv : PySem.W.kitOne K (.ref C) (.type "ValueError") = some true
def Good (n : Int) : Prop := 2 ≤ n ∧ n ≤ 997 ∧ NT.Pr n.toNat
def Sm (n : Int) : Prop := n.natAbs.log2 < 1000
theorem sm60 {n : Int} (h : n.natAbs < 10 ^ 62) : Sm n := by
  unfold Sm
  rcases Nat.eq_zero_or_pos n.natAbs with e | e
  · rw [e]; decide
  · exact (Nat.log2_lt (by omega)).mpr (Nat.lt_trans h (by decide))
theorem smk {n : Int} (h : n.natAbs < 1000000) : Sm n := sm60 (Nat.lt_trans h (by decide))
theorem txt_len {n : Int} (h : Sm n) : (Str.ofString (toString n)).length ≤ 1001 := by
  rw [ofString_length]
  exact int_text_length_le (k := 1000) (by decide) h
/-! ### what a refusal says -/
section
variable {σ : St} {H : Hp} {T : Hp → Prop} {out : Str} {ts : List TE}
theorem say_nil (hl : out.length ≤ 100000) (q : T H) : tJoin out [] σ H fun x H1 => [x].length = 1 ∧ T H1 := ⟨by rw [sizeLine_eq]; omega, rfl, q⟩
theorem say_str {x : Str} (k : Nat) (hx : x.length ≤ 100) (hl : out.length ≤ k) (hk : k ≤ 50000) (h : ∀ o : Str, o.length ≤ k + 100 → tJoin o ts σ H fun x H1 => [x].length = 1 ∧ T H1) : tJoin out (tC (.str x) :: ts) σ H fun x H1 => [x].length = 1 ∧ T H1 :=
  ⟨_, rfl, by rw [strLen_append, sizeLine_eq]; omega, h _ (by rw [strLen_append]; omega)⟩
theorem say_var {i : Nat} {n : Int} (k : Nat) (hσ : σ[i]? = some (some (.int n))) (hs : Sm n) (hl : out.length ≤ k) (hk : k ≤ 50000) (h : ∀ o : Str, o.length ≤ k + 1001 → tJoin o ts σ H fun x H1 => [x].length = 1 ∧ T H1) : tJoin out (tFmt (tVar i) :: ts) σ H fun x H1 => [x].length = 1 ∧ T H1 := by
  have lt := txt_len hs
  have hs : n.natAbs.log2 < 1000 := hs
  exact ⟨_, hσ, n, rfl, by omega, _, rfl, by rw [strLen_append, sizeLine_eq]; omega, h _ (by rw [strLen_append]; omega)⟩
theorem say_int {n : Int} (k : Nat) (hs : Sm n) (hl : out.length ≤ k) (hk : k ≤ 50000) (h : ∀ o : Str, o.length ≤ k + 1001 → tJoin o ts σ H fun x H1 => [x].length = 1 ∧ T H1) : tJoin out (tFmt (tC (.int n)) :: ts) σ H fun x H1 => [x].length = 1 ∧ T H1 := by
  have lt := txt_len hs
  have hs : n.natAbs.log2 < 1000 := hs
  exact ⟨n, rfl, by omega, _, rfl, by rw [strLen_append, sizeLine_eq]; omega, h _ (by rw [strLen_append]; omega)⟩
end
/-! ### promises: what is answered, and what is refused -/
def okR (m n : Int) : Prop := 0 ≤ n ∧ n < m
def okA (m n : Int) : Prop := 0 < n ∧ n < m
instance (m n : Int) : Decidable (okR m n) := by unfold okR; infer_instance
instance (m n : Int) : Decidable (okA m n) := by unfold okA; infer_instance
def spAskX (R : Addr) : Sp := fun vs H Q E => ∃ m n : Int, vs = [.int m, .int n] ∧ Sm m ∧ Sm n ∧ (okR m n → Q .non H) ∧ (¬ okR m n → E (.ref R) none H)
def spAskAX (R : Addr) : Sp := fun vs H Q E => ∃ m n : Int, vs = [.int m, .int n] ∧ Sm m ∧ Sm n ∧ (okA m n → Q .non H) ∧ (¬ okA m n → E (.ref R) none H)
def spInitX (C Cp : Addr) : Sp := fun vs H Q E => ∃ (p dx : Addr) (n : Int), vs = [.ref p, .int n] ∧ H p = some (.ins C dx []) ∧ Sm n ∧
  (Good n → ∀ H2, H2 p = some (.ins C dx [(("prime" : Str), V.int n)]) → (∀ b o, b ≠ p → H b = some o → H2 b = some o) → Q .non H2) ∧ (¬ Good n → E (.ref Cp) none H)
variable {Cp Cr Cw Co S : Addr}
theorem sc_ask_rest : FnScope ["prime", "number"] ["prime", "number"] (defScope s_ask_rest) := ⟨rfl, rfl, rfl, by decide +kernel, rfl, by decide +kernel, by decide +kernel⟩
theorem ok_ask_rest {f : Addr} {fd : FuncData} (TR : XC K mg S "NoRest" Cr) (F : Fun K "ask_rest" "ask_rest" s_ask_rest f fd) : FnOk P w K mg base (CXE P w) 1 f fd ["prime", "number"] (spAskX Cr) := by
  have nd := sc_ask_rest.nd
  refine F.okI sc_ask_rest (fun vs H Q E h => ?_) (fun cdv A outer s H vs Q E hr h => ?_)
  · obtain ⟨m, n, rfl, _⟩ := h
    rfl
  obtain ⟨m, n, rfl, sm, sn, q, qE⟩ := h
  refine ⟨_, jss_one (js_if (jw_pt (jw_or (jt_cmpR op_lt (jv 1) je_int (nomark _)) (jw_or1 (jt_cmpR op_ge (jv 1) (jv 0) (nomark _))))) (jss_one (js_raise (C := Cr) (je_join (.cons (je_fmt (jv 1)) (.cons je_str (.cons (je_fmt (jv 0)) .nil)))) throwJ TR.ns TR.ex PySem.F.excBase_ValueError rfl PySem.F.excBase_ValueError rfl rfl rfl rfl))
    (jss_nil)), ?_⟩
  have raise : ¬ okR m n → ∀ D, tRaise (tJoin Str.empty [tFmt (tVar 1), tC (.str " is no rest by "), tFmt (tVar 0)]) (fun H1 => E (.ref Cr) none H1) D (start ["prime", "number"] [.int m, .int n]) H := fun ng D =>
    say_var 0 rfl sn (by decide) (by decide) fun o h1 => say_str _ (by decide) h1 (by decide) fun o h2 => say_var _ rfl sm h2 (by decide) fun o h3 => say_nil (by omega) (qE ng)
  refine ⟨_, rfl, _, _, rfl, rfl, _, rfl, ?_⟩
  refine ite2 (fun c => ?_) (fun c => ?_)
  · have c : n < 0 := of_decide_eq_true c
    exact raise (fun g => by have := g.1; omega) ⟨fun _ _ => True, fun _ _ => True, fun _ _ => True, fun _ _ => True⟩
  have c0 : ¬ n < 0 := fun z => c (decide_eq_true z)
  refine ⟨_, rfl, _, rfl, _, _, rfl, rfl, _, rfl, ?_⟩
  refine ite2 (fun c => ?_) (fun c => ?_)
  · have c : m ≤ n := of_decide_eq_true c
    exact raise (fun g => by have := g.2; omega) ⟨fun _ _ => True, fun _ _ => True, fun _ _ => True, fun _ _ => True⟩
  have c1 : ¬ m ≤ n := fun z => c (decide_eq_true z)
  exact q ⟨by omega, by omega⟩
theorem sc_ask_rest_above_nought : FnScope ["prime", "number"] ["prime", "number"] (defScope s_ask_rest_above_nought) := ⟨rfl, rfl, rfl, by decide +kernel, rfl, by decide +kernel, by decide +kernel⟩
theorem ok_ask_rest_above_nought {f : Addr} {fd : FuncData} (TR : XC K mg S "NoRest" Cr) (F : Fun K "ask_rest_above_nought" "ask_rest_above_nought" s_ask_rest_above_nought f fd) (D_ask_rest : DefX P w K mg base "ask_rest" 1 ["prime", "number"] (spAskX Cr)) : FnOk P w K mg base (CXE P w) 2 f fd ["prime", "number"] (spAskAX Cr) := by
  have nd := sc_ask_rest_above_nought.nd
  refine F.okI sc_ask_rest_above_nought (fun vs H Q E h => ?_) (fun cdv A outer s H vs Q E hr h => ?_)
  · obtain ⟨m, n, rfl, _⟩ := h
    rfl
  obtain ⟨m, n, rfl, sm, sn, q, qE⟩ := h
  refine ⟨_, jss_cons (js_expr (je_callX passJ D_ask_rest (hr.mono (by decide)) rfl (ja_cons (jv 0) (ja_cons (jv 1) ja_nil))))
    (jss_one (js_if (jt_cmpR op_eq (jv 1) je_int (nomark _)) (jss_one (js_raise (C := Cr) je_str throwJ TR.ns TR.ex PySem.F.excBase_ValueError rfl PySem.F.excBase_ValueError rfl rfl rfl rfl))
    (jss_nil))), ?_⟩
  refine ⟨_, rfl, _, rfl, m, n, rfl, sm, sn, fun g => ?_, fun g => qE fun z => g ⟨by have := z.1; omega, z.2⟩⟩
  refine ⟨_, rfl, rfl, _, rfl, ?_⟩
  refine ite2 (fun c => ?_) (fun c => ?_)
  · have c : V.int n = V.int 0 := of_decide_eq_true c
    have c : n = 0 := V.int.inj c
    exact ⟨rfl, qE fun z => by have := z.1; omega⟩
  · have c : ¬ n = 0 := fun z => c (decide_eq_true (congrArg V.int z))
    exact q ⟨by have := g.1; omega, g.2⟩
theorem sc_Field___init__ : FnScope ["self", "prime"] ["self", "prime"] (defScope s_Field___init__) := ⟨rfl, rfl, rfl, by decide +kernel, rfl, by decide +kernel, by decide +kernel⟩
theorem ok_Field___init__ {f : Addr} {fd : FuncData} (T : Txt K mg C) (TP : XC K mg S "NoPrime" Cp) (F : Fun K "__init__" "Field.__init__" s_Field___init__ f fd) (D_is_prime : DefOk P w K mg base "is_prime" 1 ["number"] spIsPrimeG) : FnOk P w K mg base (CXE P w) 2 f fd ["self", "prime"] (spInitX C Cp) := by
  have nd := sc_Field___init__.nd
  obtain ⟨tg, g_GREATEST_PRIME⟩ := T.gp
  refine F.okI sc_Field___init__ (fun vs H Q E h => ?_) (fun cdv A outer s H vs Q E hr h => ?_)
  · obtain ⟨p, dx, m, rfl, _⟩ := h
    rfl
  obtain ⟨p, dx, n, rfl, hp, hlog, q, qE⟩ := h
  refine ⟨_, jss_cons (js_if (jw_pt (jw_or (jt_cmpR op_gt (jv 1) (je_globI rfl g_GREATEST_PRIME) (nomark _)) (jw_or1 (jt_not (jt_val (je_callD D_is_prime (hr.mono (by decide)) rfl (ja_cons (jv 1) ja_nil))))))) (jss_one (js_raise (C := Cp) (je_join (.cons (je_fmt (jv 1)) (.cons je_str (.cons (je_fmt (je_globI rfl g_GREATEST_PRIME)) .nil)))) throwJ TP.ns TP.ex PySem.F.excBase_ValueError rfl PySem.F.excBase_ValueError rfl rfl rfl rfl))
    (jss_nil))
    (jss_one (js_fld (jv 0) (jv 1) rfl)), ?_⟩
  have raise : ¬ Good n → ∀ D, (tRaise (tJoin Str.empty [tFmt (tVar 1), tC (.str " is no prime from 2 to "), tFmt (tC (.int 997))]) (fun H1 => E (.ref Cp) none H1)) D (start ["self", "prime"] [.ref p, .int n]) H := fun ng D =>
    say_var 0 rfl hlog (by decide) (by decide) fun o h1 => say_str _ (by decide) h1 (by decide) fun o h2 => say_int _ (smk (by decide)) h2 (by decide) fun o h3 => say_nil (by omega) (qE ng)
  -- prime > GREATEST_PRIME
  refine ⟨_, rfl, _, _, rfl, rfl, _, rfl, ?_⟩
  refine ite2 (fun c => ?_) (fun c => ?_)
  · have c : (997 : Int) < n := of_decide_eq_true c
    exact raise (fun g => by have := g.2.1; omega) ⟨fun _ _ => True, fun _ _ => True, fun _ _ => True, fun _ _ => True⟩
  have c : ¬ (997 : Int) < n := fun z => c (decide_eq_true z)
  -- is_prime(prime)
  refine ⟨_, rfl, n, rfl, by omega, fun b hb => ⟨_, rfl, ?_⟩⟩
  cases b with
  | false => exact raise (fun g => by have := hb.mpr ⟨g.1, g.2.2⟩; cases this) ⟨fun _ _ => True, fun _ _ => True, fun _ _ => True, fun _ _ => True⟩
  | true =>
    obtain ⟨g1, g2⟩ := hb.mp rfl
    exact ⟨_, rfl, _, rfl, p, C, dx, _, rfl, hp, T.cl, T.n_prime, (by show 0 < 1000; decide), q ⟨g1, by omega, g2⟩ _ upd_same fun b o nb e => by rw [upd_ne nb]; exact e⟩
/-! ### the field's methods, refused -/
def spBinX (C R : Addr) : Sp := fun vs H _ E => ∃ (p : Addr) (m : Nat) (a b : Int), vs = [.ref p, .int a, .int b] ∧ FieldAt C H p m ∧ Sm a ∧ Sm b ∧ ¬ (okR m a ∧ okR m b) ∧ E (.ref R) none H
def spPowX (C R : Addr) : Sp := fun vs H _ E => ∃ (p : Addr) (m : Nat) (a b : Int), vs = [.ref p, .int a, .int b] ∧ FieldAt C H p m ∧ Sm a ∧ Sm b ∧ ¬ (okR m a ∧ 0 ≤ b) ∧ E (.ref R) none H
def spInvX (C R : Addr) : Sp := fun vs H _ E => ∃ (p : Addr) (m : Nat) (a : Int), vs = [.ref p, .int a] ∧ FieldAt C H p m ∧ Sm a ∧ ¬ okA m a ∧ E (.ref R) none H
def spOrdX (C R : Addr) : Sp := fun vs H Q E => ∃ (p : Addr) (m : Nat) (a : Int), vs = [.ref p, .int a] ∧ FieldAt C H p m ∧ Sm a ∧ (okA m a → Q (.int (NT.ordZ m a : Nat)) H) ∧ (¬ okA m a → E (.ref R) none H)
theorem FieldAt.sm {C : Addr} {H : Hp} {p : Addr} {m : Nat} (h : FieldAt C H p m) : Sm (m : Int) := smk (by have := h.le; omega)
theorem sc_Field_plus : FnScope ["self", "one", "other"] ["self", "one", "other"] (defScope s_Field_plus) := ⟨rfl, rfl, rfl, by decide +kernel, rfl, by decide +kernel, by decide +kernel⟩
theorem ok_Field_plus {f : Addr} {fd : FuncData} (T : Txt K mg C) (F : Fun K "plus" "Field.plus" s_Field_plus f fd) (D_ask_rest : DefX P w K mg base "ask_rest" 1 ["prime", "number"] (spAskX Cr)) : FnOk P w K mg base (CXE P w) 2 f fd ["self", "one", "other"] (spBinX C Cr) := by
  have nd := sc_Field_plus.nd
  refine F.okI sc_Field_plus (fun vs H Q E h => ?_) (fun cdv A outer s H vs Q E hr h => ?_)
  · obtain ⟨p, m, a, b, rfl, _⟩ := h
    rfl
  obtain ⟨p, m, a, b, rfl, fa, sa, sb, ng, qE⟩ := h
  obtain ⟨dx, ob⟩ := fa.ob
  refine ⟨_, jss_cons (js_expr (je_callX passJ D_ask_rest (hr.mono (by decide)) rfl (ja_cons (je_fld (jv 0) rfl) (ja_cons (jv 1) ja_nil))))
    (jss_cons (js_expr (je_callX passJ D_ask_rest (hr.mono (by decide)) rfl (ja_cons (je_fld (jv 0) rfl) (ja_cons (jv 2) ja_nil))))
    (jss_never)), ?_⟩
  refine ⟨_, rfl, p, C, dx, _, _, rfl, ob, T.cl, T.n_prime, look_prime _, _, rfl, m, a, rfl, fa.sm, sa, fun g1 => ?_, fun _ => qE⟩
  exact ⟨_, rfl, p, C, dx, _, _, rfl, ob, T.cl, T.n_prime, look_prime _, _, rfl, m, b, rfl, fa.sm, sb, fun g2 => absurd ⟨g1, g2⟩ ng, fun _ => qE⟩
theorem sc_Field_times : FnScope ["self", "one", "other"] ["self", "one", "other"] (defScope s_Field_times) := ⟨rfl, rfl, rfl, by decide +kernel, rfl, by decide +kernel, by decide +kernel⟩
theorem ok_Field_times {f : Addr} {fd : FuncData} (T : Txt K mg C) (F : Fun K "times" "Field.times" s_Field_times f fd) (D_ask_rest : DefX P w K mg base "ask_rest" 1 ["prime", "number"] (spAskX Cr)) : FnOk P w K mg base (CXE P w) 2 f fd ["self", "one", "other"] (spBinX C Cr) := by
  have nd := sc_Field_times.nd
  refine F.okI sc_Field_times (fun vs H Q E h => ?_) (fun cdv A outer s H vs Q E hr h => ?_)
  · obtain ⟨p, m, a, b, rfl, _⟩ := h
    rfl
  obtain ⟨p, m, a, b, rfl, fa, sa, sb, ng, qE⟩ := h
  obtain ⟨dx, ob⟩ := fa.ob
  refine ⟨_, jss_cons (js_expr (je_callX passJ D_ask_rest (hr.mono (by decide)) rfl (ja_cons (je_fld (jv 0) rfl) (ja_cons (jv 1) ja_nil))))
    (jss_cons (js_expr (je_callX passJ D_ask_rest (hr.mono (by decide)) rfl (ja_cons (je_fld (jv 0) rfl) (ja_cons (jv 2) ja_nil))))
    (jss_never)), ?_⟩
  refine ⟨_, rfl, p, C, dx, _, _, rfl, ob, T.cl, T.n_prime, look_prime _, _, rfl, m, a, rfl, fa.sm, sa, fun g1 => ?_, fun _ => qE⟩
  exact ⟨_, rfl, p, C, dx, _, _, rfl, ob, T.cl, T.n_prime, look_prime _, _, rfl, m, b, rfl, fa.sm, sb, fun g2 => absurd ⟨g1, g2⟩ ng, fun _ => qE⟩
theorem sc_Field_power : FnScope ["self", "one", "often", "told", "square", "left"] ["self", "one", "often"] (defScope s_Field_power) := ⟨rfl, rfl, rfl, by decide +kernel, rfl, by decide +kernel, by decide +kernel⟩
theorem ok_Field_power {f : Addr} {fd : FuncData} (T : Txt K mg C) (TR : XC K mg S "NoRest" Cr) (F : Fun K "power" "Field.power" s_Field_power f fd) (D_ask_rest : DefX P w K mg base "ask_rest" 1 ["prime", "number"] (spAskX Cr)) : FnOk P w K mg base (CXE P w) 2 f fd ["self", "one", "often"] (spPowX C Cr) := by
  have nd := sc_Field_power.nd
  refine F.okI sc_Field_power (fun vs H Q E h => ?_) (fun cdv A outer s H vs Q E hr h => ?_)
  · obtain ⟨p, m, a, b, rfl, _⟩ := h
    rfl
  obtain ⟨p, m, a, b, rfl, fa, sa, sb, ng, qE⟩ := h
  obtain ⟨dx, ob⟩ := fa.ob
  refine ⟨_, jss_cons (js_expr (je_callX passJ D_ask_rest (hr.mono (by decide)) rfl (ja_cons (je_fld (jv 0) rfl) (ja_cons (jv 1) ja_nil))))
    (jss_cons (js_if (jt_cmpR op_lt (jv 2) je_int (nomark _)) (jss_one (js_raise (C := Cr) (je_join (.cons (je_fmt (jv 2)) (.cons je_str .nil))) throwJ TR.ns TR.ex PySem.F.excBase_ValueError rfl PySem.F.excBase_ValueError rfl rfl rfl rfl))
    (jss_nil))
    (jss_never)), ?_⟩
  refine ⟨_, rfl, p, C, dx, _, _, rfl, ob, T.cl, T.n_prime, look_prime _, _, rfl, m, a, rfl, fa.sm, sa, fun g1 => ?_, fun _ => qE⟩
  refine ⟨_, rfl, _, _, rfl, rfl, _, rfl, ?_⟩
  refine ite2 (fun c => ?_) (fun c => ?_)
  · exact say_var 0 rfl sb (by decide) (by decide) fun o h1 => say_str _ (by decide) h1 (by decide) fun o h2 => say_nil (by omega) qE
  · have c : ¬ b < 0 := fun z => c (decide_eq_true z)
    exact absurd ⟨g1, by omega⟩ ng
theorem sc_Field_inverse : FnScope ["self", "one"] ["self", "one"] (defScope s_Field_inverse) := ⟨rfl, rfl, rfl, by decide +kernel, rfl, by decide +kernel, by decide +kernel⟩
theorem ok_Field_inverse {f : Addr} {fd : FuncData} (T : Txt K mg C) (F : Fun K "inverse" "Field.inverse" s_Field_inverse f fd) (D_ask_rest_above_nought : DefX P w K mg base "ask_rest_above_nought" 2 ["prime", "number"] (spAskAX Cr)) : FnOk P w K mg base (CXE P w) 3 f fd ["self", "one"] (spInvX C Cr) := by
  have nd := sc_Field_inverse.nd
  refine F.okI sc_Field_inverse (fun vs H Q E h => ?_) (fun cdv A outer s H vs Q E hr h => ?_)
  · obtain ⟨p, m, a, rfl, _⟩ := h
    rfl
  obtain ⟨p, m, a, rfl, fa, sa, ng, qE⟩ := h
  obtain ⟨dx, ob⟩ := fa.ob
  refine ⟨_, jss_cons (js_expr (je_callX passJ D_ask_rest_above_nought (hr.mono (by decide)) rfl (ja_cons (je_fld (jv 0) rfl) (ja_cons (jv 1) ja_nil))))
    (jss_never), ?_⟩
  exact ⟨_, rfl, p, C, dx, _, _, rfl, ob, T.cl, T.n_prime, look_prime _, _, rfl, m, a, rfl, fa.sm, sa, fun g1 => absurd g1 ng, fun _ => qE⟩
theorem sc_Field_order : FnScope ["self", "one", "often", "reached"] ["self", "one"] (defScope s_Field_order) := ⟨rfl, rfl, rfl, by decide +kernel, rfl, by decide +kernel, by decide +kernel⟩
theorem ok_Field_order {f : Addr} {fd : FuncData} (T : Txt K mg C) (F : Fun K "order" "Field.order" s_Field_order f fd) (D_ask_rest_above_nought : DefX P w K mg base "ask_rest_above_nought" 2 ["prime", "number"] (spAskAX Cr)) : FnOk P w K mg base (CXE P w) 3 f fd ["self", "one"] (spOrdX C Cr) := by
  have nd := sc_Field_order.nd
  refine F.okI sc_Field_order (fun vs H Q E h => ?_) (fun cdv A outer s H vs Q E hr h => ?_)
  · obtain ⟨p, m, a, rfl, _⟩ := h
    rfl
  obtain ⟨p, m, a, rfl, fa, sa, q, qE⟩ := h
  obtain ⟨dx, ob⟩ := fa.ob
  refine ⟨_, jss_cons (js_expr (je_callX passJ D_ask_rest_above_nought (hr.mono (by decide)) rfl (ja_cons (je_fld (jv 0) rfl) (ja_cons (jv 1) ja_nil))))
    (jss_cons (js_set (i := 2) nd rfl (Or.inl rfl) je_int)
    (jss_cons (js_set (i := 3) nd rfl (Or.inl rfl) (jv 1))
    (jss_cons (js_while loopJ (jt_cmpR op_ne (jv 3) je_int (nomark _))
    (jss_cons (js_set (i := 3) nd rfl (Or.inl rfl) (je_op op_mod (je_op op_mul (jv 3) (jv 1)) (je_fld (jv 0) rfl)))
    (jss_one (js_aug (i := 2) nd rfl (Or.inl rfl) je_int ip_add))))
    (jss_one (js_ret (jv 2)))))), ?_⟩
  refine ⟨_, rfl, p, C, dx, _, _, rfl, ob, T.cl, T.n_prime, look_prime _, _, rfl, m, a, rfl, fa.sm, sa, fun g1 => ?_, fun g1 => qE g1⟩
  have q := q g1
  obtain ⟨a0, a1⟩ := g1
  have pr := fa.pr.1
  have le := fa.le
  have m0 : (0 : Int) < m := by omega
  have ord := NT.ordZ_ok fa.pr fa.le a0 a1
  refine ⟨_, rfl, ?_⟩
  -- while reached != 1
  refine ⟨fun k σ H' => ∃ n : Nat, σ = [some (.ref p), some (.int a), some (.int n), some (.int (a ^ n % m))] ∧ H' = H ∧ k = m - n ∧ 1 ≤ n ∧ n ≤ NT.ordZ m a,
    ⟨_, 1, by rw [Int.pow_succ, Int.pow_zero, Int.one_mul, Int.emod_eq_of_lt (by omega) a1]; rfl, rfl, rfl, Nat.le_refl _, ord.pos⟩, ?_⟩
  rintro k σ H' ⟨n, rfl, rfl, rfl, n1, n2⟩
  have b0 : 0 ≤ a ^ n % (m : Int) := Int.emod_nonneg _ (by omega)
  have b1 : a ^ n % (m : Int) < m := Int.emod_lt_of_pos _ m0
  refine ⟨_, rfl, rfl, _, rfl, ?_⟩
  refine ite2 (fun c => ?_) (fun c => ?_)
  · have c : ¬ a ^ n % (m : Int) = 1 := fun z => by
      rw [z] at c
      exact absurd c (by decide)
    have nlt : n < NT.ordZ m a := by
      rcases Nat.lt_or_ge n (NT.ordZ m a) with z | z
      · exact z
      · have : n = NT.ordZ m a := by omega
        exact absurd ord.one (by rw [← this]; exact c)
    have nm := ord.le fa.pr fa.le a0 a1
    refine ⟨fun σ' H2 => σ' = [some (.ref p), some (.int a), some (.int ((n : Int) + 1)), some (.int (a ^ (n + 1) % m))] ∧ H2 = H', fun σ' H2 z => ⟨m - (n + 1), by omega, n + 1, z.1, z.2, rfl, by omega, nlt⟩, ?_⟩
    refine ⟨_, rfl, _, rfl, _, _, rfl, rfl, .inl ⟨by omega, by omega⟩, _, rfl, p, C, dx, _, _, rfl, ob, T.cl, T.n_prime, look_prime _, _, _, rfl, rfl, m0, ?_⟩
    refine ⟨_, rfl, _, _, rfl, rfl, ?_, rfl⟩
    have e : a ^ n % (m : Int) * a % m = a ^ (n + 1) % m := by
      rw [Int.pow_succ, Int.mul_emod, Int.emod_emod, ← Int.mul_emod]
    rw [← e]
    rfl
  · have c : a ^ n % (m : Int) = 1 := by
      rcases Decidable.em (a ^ n % (m : Int) = 1) with z | z
      · exact z
      · refine absurd ?_ c
        rw [decide_eq_false fun y => z (V.int.inj y)]
        rfl
    have e : n = NT.ordZ m a := by
      rcases Nat.lt_or_ge n (NT.ordZ m a) with z | z
      · exact absurd c (ord.least n n1 z)
      · omega
    refine ⟨_, rfl, ?_⟩
    rw [e]
    exact q
end
end S
namespace S
open PySem L2
section
variable {P : Program} {w : World} {K : PySem.W.Frag} {mg : Str → Option Value} {base : Heap} {C : Addr}
variable {Cp Cr Cw Co S : Addr}
theorem at_map {xs : List Int} {i : Nat} {y : V} (h : (xs.map V.int)[i]? = some y) : ∃ z, xs[i]? = some z ∧ y = V.int z := by
  rw [List.getElem?_map] at h
  cases eq : xs[i]? with
  | none => rw [eq] at h; cases h
  | some z => rw [eq] at h; exact ⟨z, rfl, (Option.some.inj h).symm⟩
theorem len_ints (xs : List Int) : (xs.map V.int).length = xs.length := List.length_map _
/-! ### rows, refused -/
def okRow (m : Int) (xs : List Int) : Prop := ∀ x ∈ xs, okR m x
instance (m : Int) (xs : List Int) : Decidable (okRow m xs) := by unfold okRow; infer_instance
structure RowX (K : PySem.W.Frag) (H : Hp) (a : Addr) (xs : List Int) : Prop where
  sq : SqL K H a (xs.map V.int)
  sm : ∀ x ∈ xs, Sm x
  le : xs.length ≤ 1000
theorem RowX.same {K : PySem.W.Frag} {H H' : Hp} {a : Addr} {xs : List Int} (h : RowX K H a xs) (s : Same H H') : RowX K H' a xs := ⟨s.seq h.sq, h.sm, h.le⟩
def spAskRestsX (K : PySem.W.Frag) (R : Addr) : Sp := fun vs H Q E => ∃ (m : Int) (a : Addr) (xs : List Int), vs = [.int m, .ref a] ∧ Sm m ∧ RowX K H a xs ∧ (okRow m xs → Q .non H) ∧ (¬ okRow m xs → E (.ref R) none H)
def spAskSomeX (K : PySem.W.Frag) (W : Addr) : Sp := fun vs H Q E => ∃ (a : Addr) (xs : List Int), vs = [.ref a] ∧ RowX K H a xs ∧ (xs ≠ [] → Q .non H) ∧ (xs = [] → E (.ref W) none H)
def spAskFigsX (K : PySem.W.Frag) (R : Addr) : Sp := fun vs H Q E => ∃ (a : Addr) (xs : List Int), vs = [.ref a] ∧ RowX K H a xs ∧ (okRow 10 xs → Q .non H) ∧ (¬ okRow 10 xs → E (.ref R) none H)
theorem row_all {m : Int} {xs : List Int} {n : Nat} (hn : n = xs.length) (h : ∀ j z, j < n → xs[j]? = some z → okR m z) : okRow m xs := fun x hx => by
  obtain ⟨jx, hjx⟩ := List.getElem?_of_mem hx
  exact h jx x (by rw [hn]; exact (List.getElem?_eq_some_iff.mp hjx).1) hjx
theorem row_step {m : Int} {xs : List Int} {i : Nat} {z : Int} (hz : xs[i]? = some z) (g : okR m z) (h : ∀ j y, j < i → xs[j]? = some y → okR m y) : ∀ j y, j < i + 1 → xs[j]? = some y → okR m y := fun j y hj hy => by
  rcases Nat.lt_or_ge j i with q | q
  · exact h j y q hy
  · have e : j = i := by omega
    subst e
    rw [hz] at hy
    cases hy
    exact g
theorem sc_ask_rests : FnScope ["prime", "row", "number"] ["prime", "row"] (defScope s_ask_rests) := ⟨rfl, rfl, rfl, by decide +kernel, rfl, by decide +kernel, by decide +kernel⟩
theorem ok_ask_rests {f : Addr} {fd : FuncData} (F : Fun K "ask_rests" "ask_rests" s_ask_rests f fd) (D_ask_rest : DefX P w K mg base "ask_rest" 1 ["prime", "number"] (spAskX Cr)) : FnOk P w K mg base (CXE P w) 2 f fd ["prime", "row"] (spAskRestsX K Cr) := by
  have nd := sc_ask_rests.nd
  refine F.okI sc_ask_rests (fun vs H Q E h => ?_) (fun cdv A outer s H vs Q E hr h => ?_)
  · obtain ⟨m, a, xs, rfl, _⟩ := h
    rfl
  obtain ⟨m, a, xs, rfl, sm, ra, q, qE⟩ := h
  refine ⟨_, jss_one (js_for loopJ rfl (ji_list (jv 1)) (jg_name (i := 2) nd rfl (Or.inl rfl))
    (jss_one (js_expr (je_callX passJ D_ask_rest (hr.mono (by decide)) rfl (ja_cons (jv 0) (ja_cons (jv 2) ja_nil)))))), ?_⟩
  refine ⟨_, rfl, a, rfl, ⟨_, ra.sq⟩, for_list (K := K) (a := a) (xs := xs.map V.int) (fun i σ H2 => (∃ x : Option V, σ = [some (.int m), some (.ref a), x]) ∧ H2 = H ∧ ∀ j z, j < i → xs[j]? = some z → okR m z) ⟨⟨none, rfl⟩, rfl, fun j z hj _ => absurd hj (Nat.not_lt_zero j)⟩ (fun i σ H2 _ ⟨_, e, _⟩ => by rw [e]; exact ra.sq) ?_ ?_⟩
  · rintro i y σ H2 hi ⟨⟨x, rfl⟩, rfl, al⟩
    obtain ⟨z, hz, rfl⟩ := at_map hi
    exact ⟨_, rfl, _, rfl, m, z, rfl, sm, ra.sm z (List.mem_of_getElem? hz), fun g => ⟨⟨_, rfl⟩, rfl, row_step hz g al⟩, fun g => qE fun r => g (r z (List.mem_of_getElem? hz))⟩
  · rintro σ H2 ⟨⟨x, rfl⟩, rfl, al⟩
    exact q (row_all (len_ints xs) al)
theorem sc_ask_some : FnScope ["row"] ["row"] (defScope s_ask_some) := ⟨rfl, rfl, rfl, by decide +kernel, rfl, by decide +kernel, by decide +kernel⟩
theorem ok_ask_some {f : Addr} {fd : FuncData} (T : Txt K mg C) (TW : XC K mg S "NoRow" Cw) (F : Fun K "ask_some" "ask_some" s_ask_some f fd) : FnOk P w K mg base (CXE P w) 1 f fd ["row"] (spAskSomeX K Cw) := by
  have nd := sc_ask_some.nd
  refine F.okI sc_ask_some (fun vs H Q E h => ?_) (fun cdv A outer s H vs Q E hr h => ?_)
  · obtain ⟨a, xs, rfl, _⟩ := h
    rfl
  obtain ⟨a, xs, rfl, ra, q, qE⟩ := h
  have hl := len_ints xs
  refine ⟨_, jss_one (js_if (jt_cmpR op_eq (je_callB call_len_seq rfl T.len (by rfl) (ja_cons (jv 0) ja_nil)) je_int (nomark _)) (jss_one (js_raise (C := Cw) je_str throwJ TW.ns TW.ex PySem.F.excBase_ValueError rfl PySem.F.excBase_ValueError rfl rfl rfl rfl))
    (jss_nil)), ?_⟩
  refine ⟨_, rfl, a, _, rfl, .inl ra.sq, rfl, _, rfl, ?_⟩
  refine ite2 (fun c => ?_) (fun c => ?_)
  · have c : V.int (((xs.map V.int).length : Nat) : Int) = V.int 0 := of_decide_eq_true c
    have c := V.int.inj c
    exact ⟨rfl, qE (List.eq_nil_of_length_eq_zero (by omega))⟩
  · refine q fun z => c ?_
    subst z
    rfl
theorem sc_ask_figures : FnScope ["row", "figure"] ["row"] (defScope s_ask_figures) := ⟨rfl, rfl, rfl, by decide +kernel, rfl, by decide +kernel, by decide +kernel⟩
theorem ok_ask_figures {f : Addr} {fd : FuncData} (TR : XC K mg S "NoRest" Cr) (F : Fun K "ask_figures" "ask_figures" s_ask_figures f fd) : FnOk P w K mg base (CXE P w) 1 f fd ["row"] (spAskFigsX K Cr) := by
  have nd := sc_ask_figures.nd
  refine F.okI sc_ask_figures (fun vs H Q E h => ?_) (fun cdv A outer s H vs Q E hr h => ?_)
  · obtain ⟨a, xs, rfl, _⟩ := h
    rfl
  obtain ⟨a, xs, rfl, ra, q, qE⟩ := h
  refine ⟨_, jss_one (js_for loopJ rfl (ji_list (jv 0)) (jg_name (i := 1) nd rfl (Or.inl rfl))
    (jss_one (js_if (jw_pt (jw_or (jt_cmpR op_lt (jv 1) je_int (nomark _)) (jw_or1 (jt_cmpR op_gt (jv 1) je_int (nomark _))))) (jss_one (js_raise (C := Cr) (je_join (.cons (je_fmt (jv 1)) (.cons je_str .nil))) throwJ TR.ns TR.ex PySem.F.excBase_ValueError rfl PySem.F.excBase_ValueError rfl rfl rfl rfl))
    (jss_nil)))), ?_⟩
  refine ⟨_, rfl, a, rfl, ⟨_, ra.sq⟩, for_list (K := K) (a := a) (xs := xs.map V.int) (fun i σ H2 => (∃ x : Option V, σ = [some (.ref a), x]) ∧ H2 = H ∧ ∀ j z, j < i → xs[j]? = some z → okR 10 z) ⟨⟨none, rfl⟩, rfl, fun j z hj _ => absurd hj (Nat.not_lt_zero j)⟩ (fun i σ H2 _ ⟨_, e, _⟩ => by rw [e]; exact ra.sq) ?_ ?_⟩
  · rintro i y σ H2 hi ⟨⟨x, rfl⟩, rfl, al⟩
    obtain ⟨z, hz, rfl⟩ := at_map hi
    have sz := ra.sm z (List.mem_of_getElem? hz)
    have bad : ¬ okR 10 z → E (.ref Cr) none H2 := fun g => qE fun r => g (r z (List.mem_of_getElem? hz))
    refine ⟨_, rfl, _, _, rfl, rfl, _, rfl, ?_⟩
    refine ite2 (fun c => ?_) (fun c => ?_)
    · have c : z < 0 := of_decide_eq_true c
      exact say_var 0 rfl sz (by decide) (by decide) fun o h1 => say_str _ (by decide) h1 (by decide) fun o h2 => say_nil (by omega) (bad fun g => by have := g.1; omega)
    have c0 : ¬ z < 0 := fun y => c (decide_eq_true y)
    refine ⟨_, rfl, _, _, rfl, rfl, _, rfl, ?_⟩
    refine ite2 (fun c => ?_) (fun c => ?_)
    · have c : (9 : Int) < z := of_decide_eq_true c
      exact say_var 0 rfl sz (by decide) (by decide) fun o h1 => say_str _ (by decide) h1 (by decide) fun o h2 => say_nil (by omega) (bad fun g => by have := g.2; omega)
    have c1 : ¬ (9 : Int) < z := fun y => c (decide_eq_true y)
    exact ⟨⟨_, rfl⟩, rfl, row_step hz ⟨by omega, by omega⟩ al⟩
  · rintro σ H2 ⟨⟨x, rfl⟩, rfl, al⟩
    exact q (row_all (len_ints xs) al)
/-- why a row is not turned -/
structure TurnE (Cr Cw Co : Addr) (m : Nat) (w : Int) (xs : List Int) (G : Addr → Prop) : Prop where
  rest : ¬ (okA m w ∧ okRow m xs) → G Cr
  row : okA m w → xs = [] → G Cw
  root : okA m w → okRow m xs → xs ≠ [] → NT.ordZ m w ≠ xs.length ∧ G Co
def spTurnX (K : PySem.W.Frag) (C Cr Cw Co : Addr) : Sp := fun vs H _ E => ∃ (p : Addr) (m : Nat) (w : Int) (a : Addr) (xs : List Int), vs = [.ref p, .int w, .ref a] ∧ FieldAt C H p m ∧ Sm w ∧ RowX K H a xs ∧ TurnE Cr Cw Co m w xs fun c => E (.ref c) none H
theorem sc_ask_turn : FnScope ["field", "root", "row", "order", "size"] ["field", "root", "row"] (defScope s_ask_turn) := ⟨rfl, rfl, rfl, by decide +kernel, rfl, by decide +kernel, by decide +kernel⟩
theorem ok_ask_turn {f : Addr} {fd : FuncData} (T : Txt K mg C) (TO : XC K mg S "NoRoot" Co) (F : Fun K "ask_turn" "ask_turn" s_ask_turn f fd) (D_ask_rest_above_nought : DefX P w K mg base "ask_rest_above_nought" 2 ["prime", "number"] (spAskAX Cr)) (D_ask_rests : DefX P w K mg base "ask_rests" 2 ["prime", "row"] (spAskRestsX K Cr))
    (D_ask_some : DefX P w K mg base "ask_some" 1 ["row"] (spAskSomeX K Cw)) (D_order : MethX P w K mg base C "order" 3 ["self", "one"] (spOrdX C Cr)) : FnOk P w K mg base (CXE P w) 4 f fd ["field", "root", "row"] (spTurnX K C Cr Cw Co) := by
  have nd := sc_ask_turn.nd
  refine F.okI sc_ask_turn (fun vs H Q E h => ?_) (fun cdv A outer s H vs Q E hr h => ?_)
  · obtain ⟨p, m, w, a, xs, rfl, _⟩ := h
    rfl
  obtain ⟨p, m, w, a, xs, rfl, fa, sw, ra, e⟩ := h
  obtain ⟨dx, ob⟩ := fa.ob
  have hl := len_ints xs
  refine ⟨_, jss_cons (js_expr (je_callX passJ D_ask_rest_above_nought (hr.mono (by decide)) rfl (ja_cons (je_fld (jv 0) rfl) (ja_cons (jv 1) ja_nil))))
    (jss_cons (js_expr (je_callX passJ D_ask_rests (hr.mono (by decide)) rfl (ja_cons (je_fld (jv 0) rfl) (ja_cons (jv 2) ja_nil))))
    (jss_cons (js_expr (je_callX passJ D_ask_some (hr.mono (by decide)) rfl (ja_cons (jv 2) ja_nil)))
    (jss_cons (js_set (i := 3) nd rfl (Or.inl rfl) (je_methX passJ D_order (jv 0) (hr.mono (by decide)) (ja_cons (jv 1) ja_nil)))
    (jss_cons (js_set (i := 4) nd rfl (Or.inl rfl) (je_callB call_len_seq rfl T.len (by rfl) (ja_cons (jv 2) ja_nil)))
    (jss_one (js_if (jt_cmpR op_ne (jv 3) (jv 4) (nomark _)) (jss_one (js_raise (C := Co) (je_join (.cons je_str (.cons (je_fmt (jv 1)) (.cons je_str (.cons (je_fmt (jv 3)) (.cons je_str (.cons (je_fmt (jv 4)) .nil))))))) throwJ TO.ns TO.ex PySem.F.excBase_ValueError rfl PySem.F.excBase_ValueError rfl rfl rfl rfl))
    (jss_nil))))))), ?_⟩
  refine ⟨_, rfl, p, C, dx, _, _, rfl, ob, T.cl, T.n_prime, look_prime _, _, rfl, m, w, rfl, fa.sm, sw, fun g1 => ?_, fun g1 => e.rest fun z => g1 z.1⟩
  refine ⟨_, rfl, p, C, dx, _, _, rfl, ob, T.cl, T.n_prime, look_prime _, _, rfl, m, a, xs, rfl, fa.sm, ra, fun g2 => ?_, fun g2 => e.rest fun z => g2 z.2⟩
  refine ⟨_, rfl, a, xs, rfl, ra, fun g3 => ?_, fun g3 => e.row g1 g3⟩
  obtain ⟨no, qE⟩ := e.root g1 g2 g3
  refine ⟨_, rfl, p, dx, _, rfl, ob, nolook _ (by decide +kernel), _, rfl, p, m, w, rfl, fa, sw, fun _ => ?_, fun z => absurd g1 z⟩
  refine ⟨_, rfl, a, _, rfl, .inl ra.sq, ?_⟩
  refine ⟨_, rfl, _, rfl, rfl, _, rfl, ?_⟩
  have so : Sm ((NT.ordZ m w : Nat) : Int) := by
    have := (NT.ordZ_ok fa.pr fa.le g1.1 g1.2).le fa.pr fa.le g1.1 g1.2
    have := fa.le
    exact smk (by omega)
  have sl : Sm (((xs.map V.int).length : Nat) : Int) := by
    have := ra.le
    exact smk (by omega)
  refine ite2 (fun c => ?_) (fun c => absurd ?_ c)
  · exact say_str 0 (by decide) (by decide) (by decide) fun o h1 => say_var _ rfl sw h1 (by decide) fun o h2 => say_str _ (by decide) h2 (by decide) fun o h3 => say_var _ rfl so h3 (by decide) fun o h4 => say_str _ (by decide) h4 (by decide) fun o h5 => say_var _ rfl sl h5 (by decide) fun o h6 => say_nil (by omega) qE
  · rw [decide_eq_false fun z => ?_]
    · rfl
    · have z := V.int.inj z
      exact no (by omega)
theorem sc_turned : FnScope ["field", "root", "row"] ["field", "root", "row"] (defScope s_turned) := ⟨rfl, rfl, rfl, by decide +kernel, rfl, by decide +kernel, by decide +kernel⟩
theorem ok_turned {f : Addr} {fd : FuncData} (F : Fun K "turned" "turned" s_turned f fd) (D_ask_turn : DefX P w K mg base "ask_turn" 4 ["field", "root", "row"] (spTurnX K C Cr Cw Co)) : FnOk P w K mg base (CXE P w) 5 f fd ["field", "root", "row"] (spTurnX K C Cr Cw Co) := by
  have nd := sc_turned.nd
  refine F.okI sc_turned (fun vs H Q E h => ?_) (fun cdv A outer s H vs Q E hr h => ?_)
  · obtain ⟨p, m, w, a, xs, rfl, _⟩ := h
    rfl
  obtain ⟨p, m, w, a, xs, rfl, h⟩ := h
  refine ⟨_, jss_cons (js_expr (je_callX passJ D_ask_turn (hr.mono (by decide)) rfl (ja_cons (jv 0) (ja_cons (jv 1) (ja_cons (jv 2) ja_nil)))))
    (jss_never), ?_⟩
  exact ⟨_, rfl, _, rfl, _, rfl, p, m, w, a, xs, rfl, h⟩
theorem sc_turned_back : FnScope ["field", "root", "row", "share", "manifold"] ["field", "root", "row"] (defScope s_turned_back) := ⟨rfl, rfl, rfl, by decide +kernel, rfl, by decide +kernel, by decide +kernel⟩
theorem ok_turned_back {f : Addr} {fd : FuncData} (F : Fun K "turned_back" "turned_back" s_turned_back f fd) (D_ask_turn : DefX P w K mg base "ask_turn" 4 ["field", "root", "row"] (spTurnX K C Cr Cw Co)) : FnOk P w K mg base (CXE P w) 5 f fd ["field", "root", "row"] (spTurnX K C Cr Cw Co) := by
  have nd := sc_turned_back.nd
  refine F.okI sc_turned_back (fun vs H Q E h => ?_) (fun cdv A outer s H vs Q E hr h => ?_)
  · obtain ⟨p, m, w, a, xs, rfl, _⟩ := h
    rfl
  obtain ⟨p, m, w, a, xs, rfl, h⟩ := h
  refine ⟨_, jss_cons (js_expr (je_callX passJ D_ask_turn (hr.mono (by decide)) rfl (ja_cons (jv 0) (ja_cons (jv 1) (ja_cons (jv 2) ja_nil)))))
    (jss_never), ?_⟩
  exact ⟨_, rfl, _, rfl, _, rfl, p, m, w, a, xs, rfl, h⟩
/-- why a worth is not told -/
structure WorthE (Cr Cw : Addr) (m : Nat) (xs : List Int) (o : Int) (G : Addr → Prop) : Prop where
  rest : ¬ (okRow m xs ∧ okR m o) → G Cr
  row : okRow m xs → okR m o → xs = [] ∧ G Cw
def spWorthX (K : PySem.W.Frag) (C Cr Cw : Addr) : Sp := fun vs H _ E => ∃ (p : Addr) (m : Nat) (a : Addr) (xs : List Int) (o : Int), vs = [.ref p, .ref a, .int o] ∧ FieldAt C H p m ∧ Sm o ∧ RowX K H a xs ∧ WorthE Cr Cw m xs o fun c => E (.ref c) none H
theorem sc_worth_at : FnScope ["field", "row", "one"] ["field", "row", "one"] (defScope s_worth_at) := ⟨rfl, rfl, rfl, by decide +kernel, rfl, by decide +kernel, by decide +kernel⟩
theorem ok_worth_at {f : Addr} {fd : FuncData} (T : Txt K mg C) (F : Fun K "worth_at" "worth_at" s_worth_at f fd) (D_ask_rest : DefX P w K mg base "ask_rest" 1 ["prime", "number"] (spAskX Cr)) (D_ask_rests : DefX P w K mg base "ask_rests" 2 ["prime", "row"] (spAskRestsX K Cr)) (D_ask_some : DefX P w K mg base "ask_some" 1 ["row"] (spAskSomeX K Cw)) : FnOk P w K mg base (CXE P w) 3 f fd ["field", "row", "one"] (spWorthX K C Cr Cw) := by
  have nd := sc_worth_at.nd
  refine F.okI sc_worth_at (fun vs H Q E h => ?_) (fun cdv A outer s H vs Q E hr h => ?_)
  · obtain ⟨p, m, a, xs, o, rfl, _⟩ := h
    rfl
  obtain ⟨p, m, a, xs, o, rfl, fa, so, ra, e⟩ := h
  obtain ⟨dx, ob⟩ := fa.ob
  refine ⟨_, jss_cons (js_expr (je_callX passJ D_ask_rests (hr.mono (by decide)) rfl (ja_cons (je_fld (jv 0) rfl) (ja_cons (jv 1) ja_nil))))
    (jss_cons (js_expr (je_callX passJ D_ask_rest (hr.mono (by decide)) rfl (ja_cons (je_fld (jv 0) rfl) (ja_cons (jv 2) ja_nil))))
    (jss_cons (js_expr (je_callX passJ D_ask_some (hr.mono (by decide)) rfl (ja_cons (jv 1) ja_nil)))
    (jss_never))), ?_⟩
  refine ⟨_, rfl, p, C, dx, _, _, rfl, ob, T.cl, T.n_prime, look_prime _, _, rfl, m, a, xs, rfl, fa.sm, ra, fun g1 => ?_, fun g1 => e.rest fun z => g1 z.1⟩
  refine ⟨_, rfl, p, C, dx, _, _, rfl, ob, T.cl, T.n_prime, look_prime _, _, rfl, m, o, rfl, fa.sm, so, fun g2 => ?_, fun g2 => e.rest fun z => g2 z.2⟩
  exact ⟨_, rfl, a, xs, rfl, ra, fun g3 => absurd (e.row g1 g2).1 g3, fun _ => (e.row g1 g2).2⟩
/-- why two rows have no product -/
structure PairE (Cr Cw : Addr) (ring : Bool) (m : Int) (xs ys : List Int) (G : Addr → Prop) : Prop where
  rest : ¬ (okRow m xs ∧ okRow m ys) → G Cr
  row : okRow m xs → okRow m ys → (xs = [] ∨ ys = [] ∨ (ring = true ∧ ys.length ≠ xs.length)) ∧ G Cw
theorem PairE.symm {Cr Cw : Addr} {ring : Bool} {m : Int} {xs ys : List Int} {G : Addr → Prop} (h : PairE Cr Cw ring m xs ys G) : PairE Cr Cw ring m ys xs G :=
  ⟨fun z => h.rest fun y => z ⟨y.2, y.1⟩, fun a b => ⟨by
    rcases (h.row b a).1 with c | c | ⟨c, d⟩
    · exact .inr (.inl c)
    · exact .inl c
    · exact .inr (.inr ⟨c, fun y => d y.symm⟩), (h.row b a).2⟩⟩
def spAskBothX (K : PySem.W.Frag) (Cr Cw : Addr) : Sp := fun vs H Q E => ∃ (m : Int) (a b : Addr) (xs ys : List Int), vs = [.int m, .ref a, .ref b] ∧ Sm m ∧ RowX K H a xs ∧ RowX K H b ys ∧ (¬ (okRow m xs ∧ okRow m ys) → E (.ref Cr) none H) ∧ (okRow m xs → okRow m ys → (xs = [] ∨ ys = [] → E (.ref Cw) none H) ∧ (xs ≠ [] → ys ≠ [] → Q .non H))
theorem sc_ask_both : FnScope ["prime", "one", "other"] ["prime", "one", "other"] (defScope s_ask_both) := ⟨rfl, rfl, rfl, by decide +kernel, rfl, by decide +kernel, by decide +kernel⟩
theorem ok_ask_both {f : Addr} {fd : FuncData} (F : Fun K "ask_both" "ask_both" s_ask_both f fd) (D_ask_rests : DefX P w K mg base "ask_rests" 2 ["prime", "row"] (spAskRestsX K Cr)) (D_ask_some : DefX P w K mg base "ask_some" 1 ["row"] (spAskSomeX K Cw)) : FnOk P w K mg base (CXE P w) 3 f fd ["prime", "one", "other"] (spAskBothX K Cr Cw) := by
  have nd := sc_ask_both.nd
  refine F.okI sc_ask_both (fun vs H Q E h => ?_) (fun cdv A outer s H vs Q E hr h => ?_)
  · obtain ⟨m, a, b, xs, ys, rfl, _⟩ := h
    rfl
  obtain ⟨m, a, b, xs, ys, rfl, sm, ra, rb, e1, e2⟩ := h
  refine ⟨_, jss_cons (js_expr (je_callX passJ D_ask_rests (hr.mono (by decide)) rfl (ja_cons (jv 0) (ja_cons (jv 1) ja_nil))))
    (jss_cons (js_expr (je_callX passJ D_ask_rests (hr.mono (by decide)) rfl (ja_cons (jv 0) (ja_cons (jv 2) ja_nil))))
    (jss_cons (js_expr (je_callX passJ D_ask_some (hr.mono (by decide)) rfl (ja_cons (jv 1) ja_nil)))
    (jss_one (js_expr (je_callX passJ D_ask_some (hr.mono (by decide)) rfl (ja_cons (jv 2) ja_nil)))))), ?_⟩
  refine ⟨_, rfl, _, rfl, m, a, xs, rfl, sm, ra, fun g1 => ?_, fun g1 => e1 fun z => g1 z.1⟩
  refine ⟨_, rfl, _, rfl, m, b, ys, rfl, sm, rb, fun g2 => ?_, fun g2 => e1 fun z => g2 z.2⟩
  refine ⟨_, rfl, a, xs, rfl, ra, fun g3 => ?_, fun g3 => (e2 g1 g2).1 (.inl g3)⟩
  exact ⟨_, rfl, b, ys, rfl, rb, fun g4 => (e2 g1 g2).2 g3 g4, fun g4 => (e2 g1 g2).1 (.inr g4)⟩
def spPairX (K : PySem.W.Frag) (C Cr Cw : Addr) (ring : Bool) : Sp := fun vs H _ E => ∃ (p : Addr) (m : Nat) (a b : Addr) (xs ys : List Int), vs = [.ref p, .ref a, .ref b] ∧ FieldAt C H p m ∧ RowX K H a xs ∧ RowX K H b ys ∧ PairE Cr Cw ring m xs ys fun c => E (.ref c) none H
theorem sc_ring_product : FnScope ["field", "one", "other", "size"] ["field", "one", "other"] (defScope s_ring_product) := ⟨rfl, rfl, rfl, by decide +kernel, rfl, by decide +kernel, by decide +kernel⟩
theorem ok_ring_product {f : Addr} {fd : FuncData} (T : Txt K mg C) (TW : XC K mg S "NoRow" Cw) (F : Fun K "ring_product" "ring_product" s_ring_product f fd) (D_ask_both : DefX P w K mg base "ask_both" 3 ["prime", "one", "other"] (spAskBothX K Cr Cw)) : FnOk P w K mg base (CXE P w) 4 f fd ["field", "one", "other"] (spPairX K C Cr Cw true) := by
  have nd := sc_ring_product.nd
  refine F.okI sc_ring_product (fun vs H Q E h => ?_) (fun cdv A outer s H vs Q E hr h => ?_)
  · obtain ⟨p, m, a, b, xs, ys, rfl, _⟩ := h
    rfl
  obtain ⟨p, m, a, b, xs, ys, rfl, fa, ra, rb, e⟩ := h
  obtain ⟨dx, ob⟩ := fa.ob
  have hx := len_ints xs
  have hy := len_ints ys
  refine ⟨_, jss_cons (js_expr (je_callX passJ D_ask_both (hr.mono (by decide)) rfl (ja_cons (je_fld (jv 0) rfl) (ja_cons (jv 1) (ja_cons (jv 2) ja_nil)))))
    (jss_cons (js_set (i := 3) nd rfl (Or.inr rfl) (je_callB call_len_seq rfl T.len (by rfl) (ja_cons (jv 1) ja_nil)))
    (jss_cons (js_if (jt_cmpR op_ne (je_callB call_len_seq rfl T.len (by rfl) (ja_cons (jv 2) ja_nil)) (jv 3) (nomark _)) (jss_one (js_raiseC (C := Cw) je_str throwJ TW.ns TW.ex PySem.F.excBase_ValueError rfl PySem.F.excBase_ValueError rfl rfl))
    (jss_nil))
    (jss_never))), ?_⟩
  refine ⟨_, rfl, p, C, dx, _, _, rfl, ob, T.cl, T.n_prime, look_prime _, _, rfl, _, rfl, m, a, b, xs, ys, rfl, fa.sm, ra, rb, e.rest, fun g1 g2 => ⟨fun _ => (e.row g1 g2).2, fun n1 n2 => ?_⟩⟩
  obtain ⟨c0, qE⟩ := e.row g1 g2
  refine ⟨_, rfl, a, _, rfl, .inl ra.sq, ?_⟩
  refine ⟨_, rfl, b, _, rfl, .inl rb.sq, _, rfl, rfl, _, rfl, ?_⟩
  refine ite2 (fun c => ⟨rfl, qE⟩) (fun c => ?_)
  rcases c0 with z | z | ⟨_, z⟩
  · exact absurd z n1
  · exact absurd z n2
  · refine absurd ?_ c
    rw [decide_eq_false fun y => ?_]
    · rfl
    · have y := V.int.inj y
      exact z (by omega)
theorem sc_plain_product : FnScope ["field", "one", "other", "size"] ["field", "one", "other"] (defScope s_plain_product) := ⟨rfl, rfl, rfl, by decide +kernel, rfl, by decide +kernel, by decide +kernel⟩
theorem ok_plain_product {f : Addr} {fd : FuncData} (T : Txt K mg C) (F : Fun K "plain_product" "plain_product" s_plain_product f fd) (D_ask_both : DefX P w K mg base "ask_both" 3 ["prime", "one", "other"] (spAskBothX K Cr Cw)) : FnOk P w K mg base (CXE P w) 4 f fd ["field", "one", "other"] (spPairX K C Cr Cw false) := by
  have nd := sc_plain_product.nd
  refine F.okI sc_plain_product (fun vs H Q E h => ?_) (fun cdv A outer s H vs Q E hr h => ?_)
  · obtain ⟨p, m, a, b, xs, ys, rfl, _⟩ := h
    rfl
  obtain ⟨p, m, a, b, xs, ys, rfl, fa, ra, rb, e⟩ := h
  obtain ⟨dx, ob⟩ := fa.ob
  refine ⟨_, jss_cons (js_expr (je_callX passJ D_ask_both (hr.mono (by decide)) rfl (ja_cons (je_fld (jv 0) rfl) (ja_cons (jv 1) (ja_cons (jv 2) ja_nil)))))
    (jss_never), ?_⟩
  refine ⟨_, rfl, p, C, dx, _, _, rfl, ob, T.cl, T.n_prime, look_prime _, _, rfl, _, rfl, m, a, b, xs, ys, rfl, fa.sm, ra, rb, e.rest, fun g1 g2 => ⟨fun _ => (e.row g1 g2).2, fun n1 n2 => ?_⟩⟩
  rcases (e.row g1 g2).1 with z | z | ⟨z, _⟩
  · exact absurd z n1
  · exact absurd z n2
  · cases z
def spLongX (K : PySem.W.Frag) (Cr Cw : Addr) : Sp := fun vs H _ E => ∃ (a b : Addr) (xs ys : List Int), vs = [.ref a, .ref b] ∧ RowX K H a xs ∧ RowX K H b ys ∧ PairE Cr Cw false 10 xs ys fun c => E (.ref c) none H
theorem sc_long_product : FnScope ["one", "other", "told", "carried", "place"] ["one", "other"] (defScope s_long_product) := ⟨rfl, rfl, rfl, by decide +kernel, rfl, by decide +kernel, by decide +kernel⟩
theorem ok_long_product {f : Addr} {fd : FuncData} (F : Fun K "long_product" "long_product" s_long_product f fd) (D_ask_figures : DefX P w K mg base "ask_figures" 1 ["row"] (spAskFigsX K Cr)) (D_ask_some : DefX P w K mg base "ask_some" 1 ["row"] (spAskSomeX K Cw)) : FnOk P w K mg base (CXE P w) 2 f fd ["one", "other"] (spLongX K Cr Cw) := by
  have nd := sc_long_product.nd
  refine F.okI sc_long_product (fun vs H Q E h => ?_) (fun cdv A outer s H vs Q E hr h => ?_)
  · obtain ⟨a, b, xs, ys, rfl, _⟩ := h
    rfl
  obtain ⟨a, b, xs, ys, rfl, ra, rb, e⟩ := h
  refine ⟨_, jss_cons (js_expr (je_callX passJ D_ask_figures (hr.mono (by decide)) rfl (ja_cons (jv 0) ja_nil)))
    (jss_cons (js_expr (je_callX passJ D_ask_figures (hr.mono (by decide)) rfl (ja_cons (jv 1) ja_nil)))
    (jss_cons (js_expr (je_callX passJ D_ask_some (hr.mono (by decide)) rfl (ja_cons (jv 0) ja_nil)))
    (jss_cons (js_expr (je_callX passJ D_ask_some (hr.mono (by decide)) rfl (ja_cons (jv 1) ja_nil)))
    (jss_never)))), ?_⟩
  refine ⟨_, rfl, a, xs, rfl, ra, fun g1 => ?_, fun g1 => e.rest fun z => g1 z.1⟩
  refine ⟨_, rfl, b, ys, rfl, rb, fun g2 => ?_, fun g2 => e.rest fun z => g2 z.2⟩
  obtain ⟨c0, qE⟩ := e.row g1 g2
  refine ⟨_, rfl, a, xs, rfl, ra, fun g3 => ?_, fun _ => qE⟩
  refine ⟨_, rfl, b, ys, rfl, rb, fun g4 => ?_, fun _ => qE⟩
  rcases c0 with z | z | ⟨z, _⟩
  · exact absurd z g3
  · exact absurd z g4
  · cases z
/-! ### points, refused -/
def px (ps : List (Int × Int)) (i : Nat) : Int := (ps.getD i (0, 0)).1
def py (ps : List (Int × Int)) (i : Nat) : Int := (ps.getD i (0, 0)).2
structure PtsAt (H : Hp) (a : Addr) (ts : List Addr) (ps : List (Int × Int)) : Prop where
  ls : H a = some (.lst (ts.map V.ref))
  ln : ts.length = ps.length
  tp : ∀ i t, ts[i]? = some t → H t = some (.tup [.int (px ps i), .int (py ps i)])
theorem at_ref {ts : List Addr} {i : Nat} {y : V} (h : (ts.map V.ref)[i]? = some y) : ∃ t, ts[i]? = some t ∧ y = V.ref t := by
  rw [List.getElem?_map] at h
  cases eq : ts[i]? with
  | none => rw [eq] at h; cases h
  | some t => rw [eq] at h; exact ⟨t, rfl, (Option.some.inj h).symm⟩
theorem lt_some {α : Type} {ts : List α} {i : Nat} {t : α} (h : ts[i]? = some t) : i < ts.length := (List.getElem?_eq_some_iff.mp h).1
def okPts (m : Int) (ps : List (Int × Int)) : Prop := ∀ i, i < ps.length → okR m (px ps i) ∧ okR m (py ps i)
structure PtsE (Cr Cw : Addr) (m : Int) (ps : List (Int × Int)) (G : Addr → Prop) : Prop where
  rest : ¬ okPts m ps → G Cr
  row : okPts m ps → (ps.length = 0 ∨ 32 < ps.length ∨ (distinct ((List.range ps.length).map (px ps))).length ≠ ps.length) ∧ G Cw
structure PtsX (H : Hp) (a : Addr) (ts : List Addr) (ps : List (Int × Int)) : Prop where
  at' : PtsAt H a ts ps
  sm : ∀ i, i < ps.length → Sm (px ps i) ∧ Sm (py ps i)
  le : ps.length ≤ 1000
def spAskPointsX (Cr Cw : Addr) : Sp := fun vs H _ E => ∃ (m : Nat) (a : Addr) (ts : List Addr) (ps : List (Int × Int)), vs = [.int m, .ref a] ∧ Sm m ∧ PtsX H a ts ps ∧ PtsE Cr Cw m ps fun c => ∀ H', Same H H' → E (.ref c) none H'
theorem sc_ask_points : FnScope ["prime", "points", "first", "second", "count"] ["prime", "points"] (defScope s_ask_points) := ⟨rfl, rfl, rfl, by decide +kernel, rfl, by decide +kernel, by decide +kernel⟩
theorem ok_ask_points {f : Addr} {fd : FuncData} (T : Txt K mg C) (TW : XC K mg S "NoRow" Cw) (F : Fun K "ask_points" "ask_points" s_ask_points f fd) (D_ask_rest : DefX P w K mg base "ask_rest" 1 ["prime", "number"] (spAskX Cr)) : FnOk P w K mg base (CXE P w) 2 f fd ["prime", "points"] (spAskPointsX Cr Cw) := by
  have nd := sc_ask_points.nd
  obtain ⟨tg, g_MOST_POINTS⟩ := T.mp
  refine F.okI sc_ask_points (fun vs H Q E h => ?_) (fun cdv A outer s H vs Q E hr h => ?_)
  · obtain ⟨m, a, ts, ps, rfl, _⟩ := h
    rfl
  obtain ⟨m, a, ts, ps, rfl, sm, hX, e⟩ := h
  have pa := hX.at'
  have hl : (ts.map V.ref).length = ps.length := by rw [List.length_map, pa.ln]
  refine ⟨_, jss_cons (js_for loopJ rfl (ji_list (jv 1)) (jg_tup rfl (jgs_cons (jg_name (i := 2) nd rfl (Or.inl rfl)) (jgs_cons (jg_name (i := 3) nd rfl (Or.inl rfl)) jgs_nil)))
    (jss_cons (js_expr (je_callX passJ D_ask_rest (hr.mono (by decide)) rfl (ja_cons (jv 0) (ja_cons (jv 2) ja_nil))))
    (jss_one (js_expr (je_callX passJ D_ask_rest (hr.mono (by decide)) rfl (ja_cons (jv 0) (ja_cons (jv 3) ja_nil)))))))
    (jss_cons (js_set (i := 4) nd rfl (Or.inl rfl) (je_callB call_len_seq rfl T.len (by rfl) (ja_cons (jv 1) ja_nil)))
    (jss_cons (js_if (jw_pt (jw_or (jt_cmpR op_eq (jv 4) je_int (nomark _)) (jw_or1 (jt_cmpR op_gt (jv 4) (je_globI rfl g_MOST_POINTS) (nomark _))))) (jss_one (js_raise (C := Cw) (je_join (.cons (je_fmt (jv 4)) (.cons je_str (.cons (je_fmt (je_globI rfl g_MOST_POINTS)) (.cons je_str .nil))))) throwJ TW.ns TW.ex PySem.F.excBase_ValueError rfl PySem.F.excBase_ValueError rfl rfl rfl rfl))
    (jss_nil))
    (jss_one (js_if (jt_cmpR op_ne (je_callB call_len_setS rfl T.len (by rfl) (ja_cons (je_callTy (call_set_of rfl) rfl T.set (by rfl) (ja_cons (je_comp rfl (comp_ok (js := []) (fr := []) (defScope s_ask_points) ["prime", "points", "first", "second", "count"] (by decide +kernel)) (ji_list (jv 1)) (fun _ _ _ _ _ => jts_nil) (fun _ _ _ _ _ => je_ix (ixtK K rfl) (jv 0) je_int (fun _ _ => rfl))) ja_nil)) ja_nil)) (jv 4) (nomark _)) (jss_one (js_raise (C := Cw) je_str throwJ TW.ns TW.ex PySem.F.excBase_ValueError rfl PySem.F.excBase_ValueError rfl rfl rfl rfl))
    (jss_nil))))), ?_⟩
  refine ⟨_, rfl, a, rfl, ⟨_, SqL.of pa.ls⟩, for_list (K := K) (a := a) (xs := ts.map V.ref) (fun i σ H2 => (∃ o1 o2 : Option V, σ = [some (.int m), some (.ref a), o1, o2, none]) ∧ H2 = H ∧ ∀ j, j < i → okR m (px ps j) ∧ okR m (py ps j)) ⟨⟨none, none, rfl⟩, rfl, fun j hj => absurd hj (Nat.not_lt_zero j)⟩ (fun i σ H2 _ ⟨_, e, _⟩ => by rw [e]; exact SqL.of pa.ls) ?_ ?_⟩
  · rintro i y σ H2 hi ⟨⟨o1, o2, rfl⟩, rfl, al⟩
    obtain ⟨t, ht, rfl⟩ := at_ref hi
    have hlt : i < ps.length := by rw [← pa.ln]; exact lt_some ht
    obtain ⟨s1, s2⟩ := hX.sm i hlt
    refine ⟨t, _, rfl, SqT.of (pa.tp i t ht), rfl, _, _, rfl, _, _, rfl, rfl, _, rfl, _, rfl, m, _, rfl, sm, s1, fun g1 => ?_, fun g1 => e.rest (fun z => g1 (z i hlt).1) _ (Same.refl _)⟩
    refine ⟨_, rfl, _, rfl, m, _, rfl, sm, s2, fun g2 => ⟨⟨_, _, rfl⟩, rfl, fun j hj => ?_⟩, fun g2 => e.rest (fun z => g2 (z i hlt).2) _ (Same.refl _)⟩
    rcases Nat.lt_or_ge j i with z | z
    · exact al j z
    · have ej : j = i := by omega
      subst ej
      exact ⟨g1, g2⟩
  rintro σ H2 ⟨⟨o1, o2, rfl⟩, rfl, al⟩
  obtain ⟨c0, qE⟩ := e.row fun i hi => al i (by rw [hl]; exact hi)
  have sc : Sm (((ts.map V.ref).length : Nat) : Int) := by
    have := hX.le
    exact smk (by omega)
  have raise : ∀ D, tRaise (tJoin Str.empty [tFmt (tVar 4), tC (.str " points where 1 to "), tFmt (tC (.int 32)), tC (.str " are asked")]) (fun H1 => E (.ref Cw) none H1) D [some (.int m), some (.ref a), o1, o2, some (.int (((ts.map V.ref).length : Nat) : Int))] H2 := fun D =>
    say_var 0 rfl sc (by decide) (by decide) fun o h1 => say_str _ (by decide) h1 (by decide) fun o h2 => say_int _ (smk (by decide)) h2 (by decide) fun o h3 => say_str _ (by decide) h3 (by decide) fun o h4 => say_nil (by omega) (qE _ (Same.refl _))
  refine ⟨_, rfl, a, _, rfl, .inl (SqL.of pa.ls), ?_⟩
  refine ⟨_, rfl, rfl, _, rfl, ?_⟩
  refine ite2 (fun c => raise ⟨fun _ _ => True, fun _ _ => True, fun _ _ => True, fun _ _ => True⟩) (fun c => ?_)
  have n0 : ¬ ps.length = 0 := fun z => c (by
    rw [hl, z]
    rfl)
  refine ⟨_, rfl, _, _, rfl, rfl, _, rfl, ?_⟩
  refine ite2 (fun c => raise ⟨fun _ _ => True, fun _ _ => True, fun _ _ => True, fun _ _ => True⟩) (fun c => ?_)
  have n1 : ¬ 32 < ps.length := fun z => c (decide_eq_true (by omega))
  refine ⟨_, rfl, a, rfl, ⟨_, SqL.of pa.ls⟩, comp_mkL (K := K) (a := a) (xs := ts.map V.ref) (fun i => V.int (px ps i)) (fun _ H3 => H3 = H2) rfl (by rw [hl]; exact small (by omega)) (fun i H3 _ e => by rw [e]; exact SqL.of pa.ls) ?_ ?_⟩
  · rintro i v H3 hi rfl
    obtain ⟨t, ht, rfl⟩ := at_ref hi
    exact ⟨_, rfl, t, _, _, _, rfl, rfl, SqT.of (pa.tp i t ht), rfl, mkS, rfl⟩
  rintro H3 rfl lc H4 hlc h4 s4
  rw [range_ints, hl] at h4
  have dle : (distinct ((List.range ps.length).map (px ps))).length ≤ ps.length := Nat.le_trans distinct_le (by rw [List.length_map, List.length_range]; exact Nat.le_refl _)
  refine ⟨lc, _, rfl, SqL.of h4, (by rw [List.length_map, List.length_range]; omega), fun la H5 S hla h5 s5 => ?_⟩
  refine ⟨la, S, _, rfl, h5, (by omega), _, rfl, rfl, _, rfl, ?_⟩
  refine ite2 (fun c => ⟨rfl, qE _ (s4.trans s5)⟩) (fun c => absurd ?_ c)
  rcases c0 with z | z | z
  · exact absurd z n0
  · exact absurd z n1
  · rw [decide_eq_false fun y => ?_]
    · rfl
    · have y := V.int.inj y
      exact z (by omega)
def spThroughX (C Cr Cw : Addr) : Sp := fun vs H _ E => ∃ (p : Addr) (m : Nat) (a : Addr) (ts : List Addr) (ps : List (Int × Int)), vs = [.ref p, .ref a] ∧ FieldAt C H p m ∧ PtsX H a ts ps ∧ PtsE Cr Cw m ps fun c => ∀ H', Same H H' → E (.ref c) none H'
theorem sc_row_through : FnScope ["field", "points", "row", "base", "point"] ["field", "points"] (defScope s_row_through) := ⟨rfl, rfl, rfl, by decide +kernel, rfl, by decide +kernel, by decide +kernel⟩
theorem ok_row_through {f : Addr} {fd : FuncData} (T : Txt K mg C) (F : Fun K "row_through" "row_through" s_row_through f fd) (D_ask_points : DefX P w K mg base "ask_points" 2 ["prime", "points"] (spAskPointsX Cr Cw)) : FnOk P w K mg base (CXE P w) 3 f fd ["field", "points"] (spThroughX C Cr Cw) := by
  have nd := sc_row_through.nd
  refine F.okI sc_row_through (fun vs H Q E h => ?_) (fun cdv A outer s H vs Q E hr h => ?_)
  · obtain ⟨p, m, a, ts, ps, rfl, _⟩ := h
    rfl
  obtain ⟨p, m, a, ts, ps, rfl, fa, hX, e⟩ := h
  obtain ⟨dx, ob⟩ := fa.ob
  refine ⟨_, jss_cons (js_expr (je_callX passJ D_ask_points (hr.mono (by decide)) rfl (ja_cons (je_fld (jv 0) rfl) (ja_cons (jv 1) ja_nil))))
    (jss_never), ?_⟩
  exact ⟨_, rfl, p, C, dx, _, _, rfl, ob, T.cl, T.n_prime, look_prime _, _, rfl, m, a, ts, ps, rfl, fa.sm, hX, e⟩
end
end S
namespace S
open PySem L2
section
variable {P : Program} {w : World} {K : PySem.W.Frag} {mg : Str → Option Value} {base : Heap} {C : Addr}
variable {Cp Cr Cw Co S : Addr}
/-! ### the law's own defs -/
theorem call_isxK {X : Cx} (K : PySem.W.Frag) (h : X.K = K) : CallR X (.builtin "isinstance") (rIsx K) := by
  subst h
  exact call_isx
theorem je_globR {X : Cx} {x : Str} {c : Addr} {pos : Pos} (hg : Gl X x) (hm : X.mg x = some (.ref c)) (hd : (x == ("__debug__" : Str)) = false) : JE X (.Name x pos) (tC (.ref c)) := ⟨fun pins s σ H Q I h => ld_glob I hg hm ⟨.ref c, H, I, rfl, h⟩ hd⟩
/-- whose class an exception at c is -/
structure Kind (K : PySem.W.Frag) (Cp Cr Cw Co c : Addr) (b1 b2 b3 b4 : Bool) : Prop where
  xc : XCls K c
  k1 : PySem.W.kitOne K (.ref c) (.ref Cp) = some b1
  k2 : PySem.W.kitOne K (.ref c) (.ref Cr) = some b2
  k3 : PySem.W.kitOne K (.ref c) (.ref Cw) = some b3
  k4 : PySem.W.kitOne K (.ref c) (.ref Co) = some b4
  kv : PySem.W.kitOne K (.ref c) (.type "ValueError") = some true
def spWhich (K : PySem.W.Frag) (Cp Cr Cw Co : Addr) : Sp := fun vs H Q _ => ∃ (ea c : Addr) (b1 b2 b3 b4 : Bool), vs = [.ref ea] ∧ H ea = some (.ext (IsX ea c)) ∧ Kind K Cp Cr Cw Co c b1 b2 b3 b4 ∧ NewL H Q (([b1, b2, b3, b4, true] : List Bool).map V.bl)
theorem sc_law_which : FnScope ["e", "first"] ["e"] (defScope s_law_which) := ⟨rfl, rfl, rfl, by decide +kernel, rfl, by decide +kernel, by decide +kernel⟩
theorem ok_law_which {f : Addr} {fd : FuncData} (T : Txt K mg C) (ve : mg "ValueError" = none) (TP : XC K mg S "NoPrime" Cp) (TR : XC K mg S "NoRest" Cr) (TW : XC K mg S "NoRow" Cw) (TO : XC K mg S "NoRoot" Co) (F : Fun K "_law_which" "_law_which" s_law_which f fd) : FnM P w K mg base 1 f fd ["e"] (spWhich K Cp Cr Cw Co) := by
  have nd := sc_law_which.nd
  refine F.okM sc_law_which (fun vs H Q E h => ?_) (fun cdv A outer s H vs Q hr h => ?_)
  · obtain ⟨ea, c, b1, b2, b3, b4, rfl, _⟩ := h
    rfl
  obtain ⟨ea, c, b1, b2, b3, b4, rfl, hea, kd, q⟩ := h
  refine ⟨_, jss_cons (js_set (i := 1) nd rfl (Or.inl rfl) (je_lstS
      (ja_cons (je_callB (id := "isinstance") (call_isxK K rfl) rfl T.isinstance (by rfl) (ja_cons (jv 0) (ja_cons (je_globR rfl TP.m (by decide)) ja_nil)))
      (ja_cons (je_callB (id := "isinstance") (call_isxK K rfl) rfl T.isinstance (by rfl) (ja_cons (jv 0) (ja_cons (je_globR rfl TR.m (by decide)) ja_nil)))
      (ja_cons (je_callB (id := "isinstance") (call_isxK K rfl) rfl T.isinstance (by rfl) (ja_cons (jv 0) (ja_cons (je_globR rfl TW.m (by decide)) ja_nil))) ja_nil)))))
    (jss_one (js_ret (je_op op_catS (jv 1) (je_lstS
      (ja_cons (je_callB (id := "isinstance") (call_isxK K rfl) rfl T.isinstance (by rfl) (ja_cons (jv 0) (ja_cons (je_globR rfl TO.m (by decide)) ja_nil)))
      (ja_cons (je_callB (id := "isinstance") (call_isxK K rfl) rfl T.isinstance (by rfl) (ja_cons (jv 0) (ja_cons (je_ty (n := "ValueError") rfl ve (by rfl)) ja_nil))) ja_nil)))))), ?_⟩
  refine ⟨_, rfl, ea, c, .ref Cp, .ref Cp, b1, rfl, hea, kd.xc, rfl, kd.k1, _, rfl, ea, c, .ref Cr, .ref Cr, b2, rfl, hea, kd.xc, rfl, kd.k2, _, rfl, ea, c, .ref Cw, .ref Cw, b3, rfl, hea, kd.xc, rfl, kd.k3, (by show 3 ≤ sizeLine; decide), fun l1 H1 n1 h1 s1 => ?_⟩
  have hea1 := s1 _ _ hea
  refine ⟨_, rfl, _, rfl, ea, c, .ref Co, .ref Co, b4, rfl, hea1, kd.xc, rfl, kd.k4, _, rfl, ea, c, .ty "ValueError", .type "ValueError", true, rfl, hea1, kd.xc, rfl, kd.kv, (by show 2 ≤ sizeLine; decide), fun l2 H2 n2 h2 s2 => ?_⟩
  exact ⟨l1, l2, _, _, rfl, rfl, s2 _ _ h1, h2, (by show 5 ≤ sizeLine; decide), fun l3 H3 n3 h3 s3 => q l3 H3 (s1.free (s2.free n3)) h3 ((s1.trans s2).trans s3)⟩
theorem nA {m n : Int} (h : ¬ okR m n) : ¬ okA m n := fun z => h ⟨by have := z.1; omega, z.2⟩
theorem two (x : Int) : x % 2 = 0 ∨ x % 2 = 1 := by omega
theorem three (x : Int) : x % 3 = 0 ∨ x % 3 = 1 ∨ x % 3 = 2 := by omega
/-- an own number that is no rest by 13 -/
structure Bad (n : Int) : Prop where
  no : ¬ okR ((13 : Nat) : Int) n
  lt : n.natAbs < 10 ^ 60
theorem Bad.sm {n : Int} (h : Bad n) : Sm n := sm60 (Nat.lt_trans h.lt (by decide))
def spOneX (C R : Addr) : Sp := fun vs H _ E => ∃ (p : Addr) (cell bad : Int), vs = [.ref p, .int cell, .int bad] ∧ FieldAt C H p 13 ∧ Bad bad ∧ ∀ H', Same H H' → E (.ref R) none H'
theorem sc_law_one_rest : FnScope ["field", "cell", "bad", "way"] ["field", "cell", "bad"] (defScope s_law_one_rest) := ⟨rfl, rfl, rfl, by decide +kernel, rfl, by decide +kernel, by decide +kernel⟩
theorem ok_law_one_rest {f : Addr} {fd : FuncData} (T : Txt K mg C) (F : Fun K "_law_one_rest" "_law_one_rest" s_law_one_rest f fd) (D_plus : MethX P w K mg base C "plus" 2 ["self", "one", "other"] (spBinX C Cr)) (D_times : MethX P w K mg base C "times" 2 ["self", "one", "other"] (spBinX C Cr))
    (D_power : MethX P w K mg base C "power" 2 ["self", "one", "often"] (spPowX C Cr)) (D_inverse : MethX P w K mg base C "inverse" 3 ["self", "one"] (spInvX C Cr)) (D_order : MethX P w K mg base C "order" 3 ["self", "one"] (spOrdX C Cr)) : FnOk P w K mg base (CXE P w) 4 f fd ["field", "cell", "bad"] (spOneX C Cr) := by
  have nd := sc_law_one_rest.nd
  refine F.okI sc_law_one_rest (fun vs H Q E h => ?_) (fun cdv A outer s H vs Q E hr h => ?_)
  · obtain ⟨p, cell, bad, rfl, _⟩ := h
    rfl
  obtain ⟨p, cell, bad, rfl, fa, hb, qE⟩ := h
  obtain ⟨dx, ob⟩ := fa.ob
  have q0 := qE H (Same.refl _)
  have s3 : Sm 3 := smk (by decide)
  refine ⟨_, jss_cons (js_set (i := 3) nd rfl (Or.inl rfl) (je_op op_mod (jv 1) je_int))
    (jss_one (js_if (jt_cmpR op_eq (jv 3) je_int (nomark _)) (jss_one (js_expr (je_methX passJ D_plus (jv 0) (hr.mono (by decide)) (ja_cons (jv 2) (ja_cons je_int ja_nil)))))
    (jss_one (js_if (jt_cmpR op_eq (jv 3) je_int (nomark _)) (jss_one (js_expr (je_methX passJ D_plus (jv 0) (hr.mono (by decide)) (ja_cons je_int (ja_cons (jv 2) ja_nil)))))
    (jss_one (js_if (jt_cmpR op_eq (jv 3) je_int (nomark _)) (jss_one (js_expr (je_methX passJ D_times (jv 0) (hr.mono (by decide)) (ja_cons (jv 2) (ja_cons je_int ja_nil)))))
    (jss_one (js_if (jt_cmpR op_eq (jv 3) je_int (nomark _)) (jss_one (js_expr (je_methX passJ D_times (jv 0) (hr.mono (by decide)) (ja_cons je_int (ja_cons (jv 2) ja_nil)))))
    (jss_one (js_if (jt_cmpR op_eq (jv 3) je_int (nomark _)) (jss_one (js_expr (je_methX passJ D_power (jv 0) (hr.mono (by decide)) (ja_cons (jv 2) (ja_cons je_int ja_nil)))))
    (jss_one (js_if (jt_cmpR op_eq (jv 3) je_int (nomark _)) (jss_one (js_expr (je_methX passJ D_power (jv 0) (hr.mono (by decide)) (ja_cons je_int (ja_cons (je_op op_sub (je_un un_neg je_int) (je_callB call_abs rfl T.abs (by rfl) (ja_cons (jv 2) ja_nil))) ja_nil)))))
    (jss_one (js_if (jt_cmpR op_eq (jv 3) je_int (nomark _)) (jss_one (js_expr (je_methX passJ D_inverse (jv 0) (hr.mono (by decide)) (ja_cons (je_ix ix_list (je_lstS (ja_cons (jv 2) (ja_cons je_int ja_nil))) (je_op op_mod (je_op op_fdiv (jv 1) je_int) je_int) (fun _ _ => rfl)) ja_nil))))
    (jss_one (js_expr (je_methX passJ D_order (jv 0) (hr.mono (by decide)) (ja_cons (je_ix ix_list (je_lstS (ja_cons (jv 2) (ja_cons je_int ja_nil))) (je_op op_mod (je_op op_fdiv (jv 1) je_int) je_int) (fun _ _ => rfl)) ja_nil)))))))))))))))))), ?_⟩
  refine ⟨_, rfl, _, _, rfl, rfl, (by show (0 : Int) < 8; decide), ?_⟩
  refine ⟨_, rfl, rfl, _, rfl, ?_⟩
  refine ite2 (fun _ => ?_) (fun _ => ?_)
  · exact ⟨_, rfl, p, dx, _, rfl, ob, nolook _ (by decide +kernel), _, rfl, p, 13, bad, 3, rfl, fa, hb.sm, s3, fun z => hb.no z.1, q0⟩
  refine ⟨_, rfl, rfl, _, rfl, ?_⟩
  refine ite2 (fun _ => ?_) (fun _ => ?_)
  · exact ⟨_, rfl, p, dx, _, rfl, ob, nolook _ (by decide +kernel), _, rfl, p, 13, 3, bad, rfl, fa, s3, hb.sm, fun z => hb.no z.2, q0⟩
  refine ⟨_, rfl, rfl, _, rfl, ?_⟩
  refine ite2 (fun _ => ?_) (fun _ => ?_)
  · exact ⟨_, rfl, p, dx, _, rfl, ob, nolook _ (by decide +kernel), _, rfl, p, 13, bad, 3, rfl, fa, hb.sm, s3, fun z => hb.no z.1, q0⟩
  refine ⟨_, rfl, rfl, _, rfl, ?_⟩
  refine ite2 (fun _ => ?_) (fun _ => ?_)
  · exact ⟨_, rfl, p, dx, _, rfl, ob, nolook _ (by decide +kernel), _, rfl, p, 13, 3, bad, rfl, fa, s3, hb.sm, fun z => hb.no z.2, q0⟩
  refine ⟨_, rfl, rfl, _, rfl, ?_⟩
  refine ite2 (fun _ => ?_) (fun _ => ?_)
  · exact ⟨_, rfl, p, dx, _, rfl, ob, nolook _ (by decide +kernel), _, rfl, p, 13, bad, 3, rfl, fa, hb.sm, s3, fun z => hb.no z.1, q0⟩
  refine ⟨_, rfl, rfl, _, rfl, ?_⟩
  refine ite2 (fun _ => ?_) (fun _ => ?_)
  · have hl := hb.lt
    refine ⟨_, rfl, p, dx, _, rfl, ob, nolook _ (by decide +kernel), _, rfl, _, rfl, bad, rfl, _, _, rfl, rfl, p, 13, 3, _, rfl, fa, s3, ?_, fun z => ?_, q0⟩
    · refine sm60 ?_
      split <;> omega
    · have z := z.2
      revert z
      split <;> omega
  have i2 := two (cell / 8)
  have n0 : ¬ okA ((13 : Nat) : Int) 0 := fun z => absurd z.1 (by decide)
  refine ⟨_, rfl, rfl, _, rfl, ?_⟩
  refine ite2 (fun _ => ?_) (fun _ => ?_)
  · refine ⟨_, rfl, p, dx, _, rfl, ob, nolook _ (by decide +kernel), _, rfl, (by show 2 ≤ sizeLine; decide), fun l H2 hl h2 s2 => ?_⟩
    rcases i2 with i0 | i0
    · exact ⟨_, rfl, _, _, rfl, rfl, ⟨by decide, by decide⟩, _, _, rfl, rfl, (by show (0 : Int) < 2; decide), l, _, _, _, rfl, rfl, SqL.of h2, (by rw [i0]; rfl), p, 13, bad, rfl, fa.same s2, hb.sm, nA hb.no, qE H2 s2⟩
    · exact ⟨_, rfl, _, _, rfl, rfl, ⟨by decide, by decide⟩, _, _, rfl, rfl, (by show (0 : Int) < 2; decide), l, _, _, _, rfl, rfl, SqL.of h2, (by rw [i0]; rfl), p, 13, 0, rfl, fa.same s2, smk (by decide), n0, qE H2 s2⟩
  · refine ⟨_, rfl, p, dx, _, rfl, ob, nolook _ (by decide +kernel), _, rfl, (by show 2 ≤ sizeLine; decide), fun l H2 hl h2 s2 => ?_⟩
    rcases i2 with i0 | i0
    · exact ⟨_, rfl, _, _, rfl, rfl, ⟨by decide, by decide⟩, _, _, rfl, rfl, (by show (0 : Int) < 2; decide), l, _, _, _, rfl, rfl, SqL.of h2, (by rw [i0]; rfl), p, 13, bad, rfl, fa.same s2, hb.sm, fun z => absurd z (nA hb.no), fun _ => qE H2 s2⟩
    · exact ⟨_, rfl, _, _, rfl, rfl, ⟨by decide, by decide⟩, _, _, rfl, rfl, (by show (0 : Int) < 2; decide), l, _, _, _, rfl, rfl, SqL.of h2, (by rw [i0]; rfl), p, 13, 0, rfl, fa.same s2, smk (by decide), fun z => absurd z n0, fun _ => qE H2 s2⟩
def spTwoX (K : PySem.W.Frag) (C Cr Cw : Addr) : Sp := fun vs H _ E => ∃ (way turn : Int) (p a b : Addr) (xs ys : List Int) (ring : Bool) (m : Nat), vs = [.int way, .ref p, .ref a, .ref b, .int turn] ∧ FieldAt C H p 13 ∧ RowX K H a xs ∧ RowX K H b ys ∧ (turn = 0 ∨ turn = 1) ∧
  ((way = 0 ∧ ring = true ∧ m = 13) ∨ (way = 1 ∧ ring = false ∧ m = 13) ∨ (way = 2 ∧ ring = false ∧ m = 10)) ∧ PairE Cr Cw ring m xs ys fun c => ∀ H', Same H H' → E (.ref c) none H'
theorem PairE.imp {Cr Cw : Addr} {ring : Bool} {m : Int} {xs ys : List Int} {G G' : Addr → Prop} (h : PairE Cr Cw ring m xs ys G) (g : ∀ c, G c → G' c) : PairE Cr Cw ring m xs ys G' := ⟨fun z => g _ (h.rest z), fun a b => ⟨(h.row a b).1, g _ (h.row a b).2⟩⟩
theorem sc_law_two : FnScope ["way", "field", "one", "other", "turn", "rows"] ["way", "field", "one", "other", "turn"] (defScope s_law_two) := ⟨rfl, rfl, rfl, by decide +kernel, rfl, by decide +kernel, by decide +kernel⟩
theorem ok_law_two {f : Addr} {fd : FuncData} (F : Fun K "_law_two" "_law_two" s_law_two f fd) (D_ring_product : DefX P w K mg base "ring_product" 4 ["field", "one", "other"] (spPairX K C Cr Cw true)) (D_plain_product : DefX P w K mg base "plain_product" 4 ["field", "one", "other"] (spPairX K C Cr Cw false))
    (D_long_product : DefX P w K mg base "long_product" 2 ["one", "other"] (spLongX K Cr Cw)) : FnOk P w K mg base (CXE P w) 5 f fd ["way", "field", "one", "other", "turn"] (spTwoX K C Cr Cw) := by
  have nd := sc_law_two.nd
  refine F.okI sc_law_two (fun vs H Q E h => ?_) (fun cdv A outer s H vs Q E hr h => ?_)
  · obtain ⟨way, turn, p, a, b, xs, ys, ring, m, rfl, _⟩ := h
    rfl
  obtain ⟨way, turn, p, a, b, xs, ys, ring, m, rfl, fa, ra, rb, ht, hw, e⟩ := h
  obtain ⟨t1, ht1, hread⟩ : ∃ tt, JSs (cxI P w K mg base ["way", "field", "one", "other", "turn", "rows"] "_law_two" (defScope s_law_two) f cdv A outer s H E) (List.drop 1 (defBody s_law_two)) tt ∧
      ∀ (r a b : Addr) (xs ys : List Int) (v2 v3 : Option V) (H1 : Hp), H1 r = some (.lst [.ref a, .ref b]) → RowX K H1 a xs → RowX K H1 b ys → Same H H1 → PairE Cr Cw ring m xs ys (fun c => ∀ H', Same H H' → E (.ref c) none H') → tt { nx := fun _ H' => Q .non H', rt := Q } [some (.int way), some (.ref p), v2, v3, some (.int turn), some (.ref r)] H1 := by
    refine ⟨_, jss_one (js_if (jt_cmpR op_eq (jv 0) je_int (nomark _)) (jss_one (js_expr (je_callX passJ D_ring_product (hr.mono (by decide)) rfl (ja_cons (jv 1) (ja_cons (je_ix ix_list (jv 5) je_int (fun _ _ => rfl)) (ja_cons (je_ix ix_list (jv 5) je_int (fun _ _ => rfl)) ja_nil))))))
    (jss_one (js_if (jt_cmpR op_eq (jv 0) je_int (nomark _)) (jss_one (js_expr (je_callX passJ D_plain_product (hr.mono (by decide)) rfl (ja_cons (jv 1) (ja_cons (je_ix ix_list (jv 5) je_int (fun _ _ => rfl)) (ja_cons (je_ix ix_list (jv 5) je_int (fun _ _ => rfl)) ja_nil))))))
    (jss_one (js_expr (je_callX passJ D_long_product (hr.mono (by decide)) rfl (ja_cons (je_ix ix_list (jv 5) je_int (fun _ _ => rfl)) (ja_cons (je_ix ix_list (jv 5) je_int (fun _ _ => rfl)) ja_nil)))))))), fun r a b xs ys v2 v3 H1 hr1 ra rb s1 e => ?_⟩
    have e := e.imp fun c g => g H1 s1
    have fa1 := fa.same s1
    rcases hw with ⟨rfl, rfl, rfl⟩ | ⟨rfl, rfl, rfl⟩ | ⟨rfl, rfl, rfl⟩
    · refine ⟨_, rfl, rfl, _, rfl, iteT ?_⟩
      exact ⟨_, rfl, _, rfl, r, _, _, _, rfl, rfl, SqL.of hr1, rfl, _, rfl, r, _, _, _, rfl, rfl, SqL.of hr1, rfl, p, 13, a, b, xs, ys, rfl, fa1, ra, rb, e⟩
    · refine ⟨_, rfl, rfl, _, rfl, iteF ?_⟩
      refine ⟨_, rfl, rfl, _, rfl, iteT ?_⟩
      exact ⟨_, rfl, _, rfl, r, _, _, _, rfl, rfl, SqL.of hr1, rfl, _, rfl, r, _, _, _, rfl, rfl, SqL.of hr1, rfl, p, 13, a, b, xs, ys, rfl, fa1, ra, rb, e⟩
    · refine ⟨_, rfl, rfl, _, rfl, iteF ?_⟩
      refine ⟨_, rfl, rfl, _, rfl, iteF ?_⟩
      exact ⟨_, rfl, r, _, _, _, rfl, rfl, SqL.of hr1, rfl, _, rfl, r, _, _, _, rfl, rfl, SqL.of hr1, rfl, a, b, xs, ys, rfl, ra, rb, e⟩
  refine ⟨_, jss_cons (js_set (i := 5) nd rfl (Or.inl rfl) (je_ix ix_list (je_lstS (ja_cons (je_lstS (ja_cons (jv 2) (ja_cons (jv 3) ja_nil))) (ja_cons (je_lstS (ja_cons (jv 3) (ja_cons (jv 2) ja_nil))) ja_nil))) (jv 4) (fun _ _ => rfl)))
    (ht1), ?_⟩
  refine ⟨_, rfl, _, rfl, (by show 2 ≤ sizeLine; decide), fun l1 H1 n1 h1 s1 => ?_⟩
  refine ⟨_, rfl, _, rfl, (by show 2 ≤ sizeLine; decide), fun l2 H2 n2 h2 s2 => ?_⟩
  refine ⟨(by show 2 ≤ sizeLine; decide), fun l3 H3 n3 h3 s3 => ?_⟩
  have s13 := (s1.trans s2).trans s3
  rcases ht with rfl | rfl
  · exact ⟨_, rfl, l3, _, _, _, rfl, rfl, SqL.of h3, rfl, hread l1 a b xs ys _ _ H3 (s3 _ _ (s2 _ _ h1)) (ra.same s13) (rb.same s13) s13 e⟩
  · exact ⟨_, rfl, l3, _, _, _, rfl, rfl, SqL.of h3, rfl, hread l2 b a ys xs _ _ H3 (s3 _ _ h2) (rb.same s13) (ra.same s13) s13 e.symm⟩
end
end S
namespace S
open PySem L2
section
variable {P : Program} {w : World} {K : PySem.W.Frag} {mg : Str → Option Value} {base : Heap} {C : Addr}
variable {Cp Cr Cw Co S : Addr}
def insI (n : Nat) (xs : List Int) (y : Int) : List Int := xs.take n ++ y :: xs.drop n
theorem ins_map {n : Nat} {xs : List Int} {y : Int} : (xs.map V.int).take n ++ V.int y :: (xs.map V.int).drop n = (insI n xs y).map V.int := by
  unfold insI
  rw [List.map_append, List.map_cons, List.map_take, List.map_drop]
theorem ins_mem {n : Nat} {xs : List Int} {y : Int} : y ∈ insI n xs y := by simp [insI]
theorem ins_sub {n : Nat} {xs : List Int} {y x : Int} (h : x ∈ insI n xs y) : x ∈ xs ∨ x = y := by
  unfold insI at h
  rcases List.mem_append.mp h with hA | hB
  · exact .inl (List.mem_of_mem_take hA)
  · rcases List.mem_cons.mp hB with hC | hD
    · exact .inr hC
    · exact .inl (List.mem_of_mem_drop hD)
theorem ins_len {n : Nat} {xs : List Int} {y : Int} : (insI n xs y).length ≤ xs.length + 1 + xs.length := by
  simp only [insI, List.length_append, List.length_cons, List.length_take, List.length_drop]
  omega
theorem rowX {K : PySem.W.Frag} {H : Hp} {a : Addr} {xs : List Int} (h : H a = some (.lst (xs.map V.int))) (hs : ∀ x ∈ xs, x.natAbs < 1000000) (hl : xs.length ≤ 1000) : RowX K H a xs := ⟨SqL.of h, fun x hx => smk (hs x hx), hl⟩
theorem rowI {K : PySem.W.Frag} {H : Hp} {a : Addr} {n : Nat} {xs : List Int} {y : Int} (h : H a = some (.lst ((insI n xs y).map V.int))) (hy : Sm y) (hs : ∀ x ∈ xs, x.natAbs < 1000000) (hl : xs.length ≤ 400) : RowX K H a (insI n xs y) :=
  ⟨SqL.of h, fun x hx => by
    rcases ins_sub hx with z | rfl
    · exact smk (hs x z)
    · exact hy, by have := ins_len (n := n) (xs := xs) (y := y); omega⟩
theorem insNo {m : Int} {n : Nat} {xs : List Int} {y : Int} (h : ¬ okR m y) : ¬ okRow m (insI n xs y) := fun z => h (z y ins_mem)
theorem TurnE.ofRest {Cr Cw Co : Addr} {m : Nat} {w : Int} {xs : List Int} {G : Addr → Prop} (h : ¬ (okA m w ∧ okRow m xs)) (h2 : okA m w → xs ≠ []) (g : G Cr) : TurnE Cr Cw Co m w xs G := ⟨fun _ => g, fun a e => absurd e (h2 a), fun a b => absurd ⟨a, b⟩ h⟩
theorem nilRow {m : Int} : okRow m [] := fun x hx => by cases hx
theorem TurnE.ofRow {Cr Cw Co : Addr} {m : Nat} {w : Int} {G : Addr → Prop} (h : okA m w) (g : G Cw) : TurnE Cr Cw Co m w [] G := ⟨fun z => absurd ⟨h, nilRow⟩ z, fun _ _ => g, fun _ _ z => absurd rfl z⟩
theorem TurnE.ofRoot {Cr Cw Co : Addr} {m : Nat} {w : Int} {xs : List Int} {G : Addr → Prop} (h : okA m w) (r : okRow m xs) (n : xs ≠ []) (o : NT.ordZ m w ≠ xs.length) (g : G Co) : TurnE Cr Cw Co m w xs G := ⟨fun z => absurd ⟨h, r⟩ z, fun _ z => absurd z n, fun _ _ _ => ⟨o, g⟩⟩
theorem WorthE.ofRest {Cr Cw : Addr} {m : Nat} {xs : List Int} {o : Int} {G : Addr → Prop} (h : ¬ (okRow m xs ∧ okR m o)) (g : G Cr) : WorthE Cr Cw m xs o G := ⟨fun _ => g, fun a b => absurd ⟨a, b⟩ h⟩
theorem PairE.ofRest {Cr Cw : Addr} {ring : Bool} {m : Int} {xs ys : List Int} {G : Addr → Prop} (h : ¬ (okRow m xs ∧ okRow m ys)) (g : G Cr) : PairE Cr Cw ring m xs ys G := ⟨fun _ => g, fun a b => absurd ⟨a, b⟩ h⟩
theorem PairE.ofRow {Cr Cw : Addr} {ring : Bool} {m : Int} {xs ys : List Int} {G : Addr → Prop} (h : okRow m xs ∧ okRow m ys) (c : xs = [] ∨ ys = [] ∨ (ring = true ∧ ys.length ≠ xs.length)) (g : G Cw) : PairE Cr Cw ring m xs ys G := ⟨fun z => absurd h z, fun _ _ => ⟨c, g⟩⟩
theorem PtsE.ofRest {Cr Cw : Addr} {m : Int} {ps : List (Int × Int)} {G : Addr → Prop} (h : ¬ okPts m ps) (g : G Cr) : PtsE Cr Cw m ps G := ⟨fun _ => g, fun a => absurd a h⟩
theorem pts3 {H H4 : Hp} {t1 t2 t3 l : Addr} {a1 b1 a2 b2 a3 b3 : Int} (n1 : H t1 = none) (n2 : upd H t1 (.tup [.int a1, .int b1]) t2 = none) (n3 : upd (upd H t1 (.tup [.int a1, .int b1])) t2 (.tup [.int a2, .int b2]) t3 = none)
    (h4 : H4 l = some (.lst [.ref t1, .ref t2, .ref t3])) (s4 : Same (upd (upd (upd H t1 (.tup [.int a1, .int b1])) t2 (.tup [.int a2, .int b2])) t3 (.tup [.int a3, .int b3])) H4) : PtsAt H4 l [t1, t2, t3] [(a1, b1), (a2, b2), (a3, b3)] ∧ Same H H4 := by
  have s1 := same_new n1 (.tup [.int a1, .int b1])
  have s2 := same_new n2 (.tup [.int a2, .int b2])
  have s3 := same_new n3 (.tup [.int a3, .int b3])
  refine ⟨⟨h4, rfl, fun i t e => ?_⟩, ((s1.trans s2).trans s3).trans s4⟩
  match i, e with
  | 0, e =>
    cases e
    exact s4 _ _ (s3 _ _ (s2 _ _ upd_same))
  | 1, e =>
    cases e
    exact s4 _ _ (s3 _ _ upd_same)
  | 2, e =>
    cases e
    exact s4 _ _ upd_same
  | i + 3, e => simp at e
theorem sm3 {a1 b1 a2 b2 a3 b3 : Int} (h : Sm a1 ∧ Sm b1 ∧ Sm a2 ∧ Sm b2 ∧ Sm a3 ∧ Sm b3) : ∀ i, i < ([(a1, b1), (a2, b2), (a3, b3)] : List (Int × Int)).length → Sm (px [(a1, b1), (a2, b2), (a3, b3)] i) ∧ Sm (py [(a1, b1), (a2, b2), (a3, b3)] i) := fun i hi => by
  obtain ⟨p1, p2, p3, p4, p5, p6⟩ := h
  match i, hi with
  | 0, _ => exact ⟨p1, p2⟩
  | 1, _ => exact ⟨p3, p4⟩
  | 2, _ => exact ⟨p5, p6⟩
  | i + 3, hi => exact absurd (show i + 3 < 3 from hi) (by omega)
theorem four (x : Int) : 0 ≤ x % 4 ∧ (x % 4).toNat ≤ 3 := by omega
theorem sc_law_row_rest : FnScope ["field", "cell", "bad", "way", "row", "figures"] ["field", "cell", "bad"] (defScope s_law_row_rest) := ⟨rfl, rfl, rfl, by decide +kernel, rfl, by decide +kernel, by decide +kernel⟩
theorem ok_law_row_rest {f : Addr} {fd : FuncData} (T : Txt K mg C) (F : Fun K "_law_row_rest" "_law_row_rest" s_law_row_rest f fd) (D_turned : DefX P w K mg base "turned" 5 ["field", "root", "row"] (spTurnX K C Cr Cw Co)) (D_turned_back : DefX P w K mg base "turned_back" 5 ["field", "root", "row"] (spTurnX K C Cr Cw Co))
    (D_worth_at : DefX P w K mg base "worth_at" 3 ["field", "row", "one"] (spWorthX K C Cr Cw)) (D_law_two : DefX P w K mg base "_law_two" 5 ["way", "field", "one", "other", "turn"] (spTwoX K C Cr Cw)) (D_row_through : DefX P w K mg base "row_through" 3 ["field", "points"] (spThroughX C Cr Cw)) : FnOk P w K mg base (CXE P w) 6 f fd ["field", "cell", "bad"] (spOneX C Cr) := by
  have nd := sc_law_row_rest.nd
  refine F.okI sc_law_row_rest (fun vs H Q E h => ?_) (fun cdv A outer s H vs Q E hr h => ?_)
  · obtain ⟨p, cell, bad, rfl, _⟩ := h
    rfl
  obtain ⟨p, cell, bad, rfl, fa0, hb, qE0⟩ := h
  refine ⟨_, jss_cons (js_set (i := 3) nd rfl (Or.inl rfl) (je_op op_mod (jv 1) je_int))
    (jss_cons (js_set (i := 4) nd rfl (Or.inl rfl) (je_lstS (ja_cons je_int (ja_cons je_int (ja_cons je_int ja_nil)))))
    (jss_cons (js_expr (je_bm PySem.F.plainAttrs_list PySem.F.slot_list_insert PySem.F.type_list_insert mt_insertS (jv 4) (ja_cons (je_op op_mod (je_op op_fdiv (jv 1) je_int) je_int) (ja_cons (jv 2) ja_nil))))
    (jss_one (js_if (jt_cmpR op_eq (jv 3) je_int (nomark _)) (jss_one (js_expr (je_callX passJ D_turned (hr.mono (by decide)) rfl (ja_cons (jv 0) (ja_cons (je_ix ix_list (je_lstS (ja_cons (jv 2) (ja_cons je_int (ja_cons je_int ja_nil)))) (je_op op_mod (je_op op_fdiv (jv 1) je_int) je_int) (fun _ _ => rfl)) (ja_cons (je_ifExp (jt_cmpR op_lt (je_op op_mod (je_op op_fdiv (jv 1) je_int) je_int) je_int (nomark _)) (je_lstS (ja_cons je_int (ja_cons je_int (ja_cons je_int ja_nil)))) (jv 4)) ja_nil))))))
    (jss_one (js_if (jt_cmpR op_eq (jv 3) je_int (nomark _)) (jss_one (js_expr (je_callX passJ D_turned_back (hr.mono (by decide)) rfl (ja_cons (jv 0) (ja_cons (je_ix ix_list (je_lstS (ja_cons (jv 2) (ja_cons je_int (ja_cons je_int ja_nil)))) (je_op op_mod (je_op op_fdiv (jv 1) je_int) je_int) (fun _ _ => rfl)) (ja_cons (je_ifExp (jt_cmpR op_lt (je_op op_mod (je_op op_fdiv (jv 1) je_int) je_int) je_int (nomark _)) (je_lstS ja_nil) (jv 4)) ja_nil))))))
    (jss_one (js_if (jt_cmpR op_eq (jv 3) je_int (nomark _)) (jss_one (js_expr (je_callX passJ D_worth_at (hr.mono (by decide)) rfl (ja_cons (jv 0) (ja_cons (jv 4) (ja_cons je_int ja_nil))))))
    (jss_one (js_if (jt_cmpR op_eq (jv 3) je_int (nomark _)) (jss_one (js_expr (je_callX passJ D_worth_at (hr.mono (by decide)) rfl (ja_cons (jv 0) (ja_cons (je_lstS ja_nil) (ja_cons (jv 2) ja_nil))))))
    (jss_one (js_if (jt_cmpR op_eq (jv 3) je_int (nomark _)) (jss_one (js_expr (je_callX passJ D_law_two (hr.mono (by decide)) rfl (ja_cons je_int (ja_cons (jv 0) (ja_cons (jv 4) (ja_cons (je_lstS (ja_cons je_int (ja_cons je_int ja_nil))) (ja_cons (je_op op_mod (je_op op_fdiv (jv 1) je_int) je_int) ja_nil))))))))
    (jss_one (js_if (jt_cmpR op_eq (jv 3) je_int (nomark _)) (jss_one (js_expr (je_callX passJ D_law_two (hr.mono (by decide)) rfl (ja_cons je_int (ja_cons (jv 0) (ja_cons (je_lstS ja_nil) (ja_cons (jv 4) (ja_cons (je_op op_mod (je_op op_fdiv (jv 1) je_int) je_int) ja_nil))))))))
    (jss_one (js_if (jt_cmpR op_eq (jv 3) je_int (nomark _)) (jss_one (js_expr (je_callX passJ D_row_through (hr.mono (by decide)) rfl (ja_cons (jv 0) (ja_cons (je_lstS (ja_cons (je_tup (ja_cons je_int (ja_cons je_int ja_nil))) (ja_cons (je_tup (ja_cons je_int (ja_cons je_int ja_nil))) (ja_cons (je_tup (ja_cons (jv 2) (ja_cons je_int ja_nil))) ja_nil)))) ja_nil)))))
    (jss_one (js_if (jt_cmpR op_eq (jv 3) je_int (nomark _)) (jss_one (js_expr (je_callX passJ D_row_through (hr.mono (by decide)) rfl (ja_cons (jv 0) (ja_cons (je_lstS (ja_cons (je_tup (ja_cons je_int (ja_cons je_int ja_nil))) (ja_cons (je_tup (ja_cons je_int (ja_cons (jv 2) ja_nil))) (ja_cons (je_tup (ja_cons je_int (ja_cons je_int ja_nil))) ja_nil)))) ja_nil)))))
    (jss_cons (js_set (i := 5) nd rfl (Or.inl rfl) (je_lstS (ja_cons je_int (ja_cons je_int (ja_cons je_int ja_nil)))))
    (jss_cons (js_expr (je_bm PySem.F.plainAttrs_list PySem.F.slot_list_insert PySem.F.type_list_insert mt_insertS (jv 5) (ja_cons (je_op op_mod (je_op op_fdiv (jv 1) je_int) je_int) (ja_cons (je_ix ix_list (je_lstS (ja_cons je_int (ja_cons (je_un un_neg je_int) (ja_cons (jv 2) ja_nil)))) (je_op op_mod (je_op op_fdiv (jv 1) je_int) je_int) (fun _ _ => rfl)) ja_nil))))
    (jss_one (js_expr (je_callX passJ D_law_two (hr.mono (by decide)) rfl (ja_cons je_int (ja_cons (jv 0) (ja_cons (je_ix ix_list (je_lstS (ja_cons (je_lstS ja_nil) (ja_cons (jv 5) (ja_cons (je_lstS (ja_cons je_int ja_nil)) ja_nil)))) (je_op op_mod (je_op op_fdiv (jv 1) je_int) je_int) (fun _ _ => rfl)) (ja_cons (jv 5) (ja_cons (je_op op_mod (je_op op_fdiv (jv 1) je_int) je_int) ja_nil)))))))))))))))))))))))))))), ?_⟩
  refine ⟨_, rfl, _, _, rfl, rfl, (by show (0 : Int) < 9; decide), ?_⟩
  refine ⟨(by show 3 ≤ sizeLine; decide), fun lr H1 n1 h1 s1 => ?_⟩
  obtain ⟨f0, f1⟩ := four (cell / 9)
  refine ⟨_, rfl, .inl ⟨rfl, _, SqL.of h1⟩, _, rfl, _, _, rfl, rfl, ⟨by decide, by decide⟩, _, _, rfl, rfl, (by show (0 : Int) < 4; decide), _, rfl, lr, _, _, _, rfl, rfl, h1, f0, f1, (by show 3 ≤ 1000; decide), fun H2 h2 k2 => ?_⟩
  have s2 : Same H H2 := s1.but n1 k2
  have h2 : H2 lr = some (.lst ((insI (cell / 9 % 4).toNat [3, 0, 12] bad).map V.int)) := h2.trans (congrArg (fun z => some (HO.lst z)) (ins_map (n := (cell / 9 % 4).toNat) (xs := [3, 0, 12]) (y := bad)))
  have fa := fa0.same s2
  have qE : ∀ H', Same H2 H' → E (.ref Cr) none H' := fun H' z => qE0 H' (s2.trans z)
  have q0 := qE H2 (Same.refl _)
  have rr : RowX K H2 lr (insI (cell / 9 % 4).toNat [3, 0, 12] bad) := rowI h2 hb.sm (by decide) (by decide)
  have bn : ¬ okRow ((13 : Nat) : Int) (insI (cell / 9 % 4).toNat [3, 0, 12] bad) := insNo hb.no
  have xn : insI (cell / 9 % 4).toNat [3, 0, 12] bad ≠ [] := fun z => by
    have m := ins_mem (n := (cell / 9 % 4).toNat) (xs := [3, 0, 12]) (y := bad)
    rw [z] at m
    cases m
  generalize insI (cell / 9 % 4).toNat [3, 0, 12] bad = xs at h2 rr bn xn
  have n0 : ¬ okA ((13 : Nat) : Int) 0 := fun z => absurd z.1 (by decide)
  have nb := nA hb.no
  have m3 : (0 : Int) < 3 := by decide
  have m2 : (0 : Int) < 2 := by decide
  -- turned
  refine ⟨_, rfl, rfl, _, rfl, ?_⟩
  refine ite2 (fun _ => ?_) (fun _ => ?_)
  · refine ⟨_, rfl, _, rfl, (by show 3 ≤ sizeLine; decide), fun l3 H3 n3 h3 s3 => ?_⟩
    rcases three (cell / 36) with i0 | i0 | i0
    · refine ⟨_, rfl, _, _, rfl, rfl, ⟨by decide, by decide⟩, _, _, rfl, rfl, m3, l3, _, _, _, rfl, rfl, SqL.of h3, (by rw [i0]; rfl), ?_⟩
      refine ⟨_, rfl, _, _, rfl, rfl, ⟨by decide, by decide⟩, _, _, rfl, rfl, m3, _, _, rfl, rfl, _, rfl, ?_⟩
      refine ite2 (fun _ => ?_) (fun c => absurd (decide_eq_true (show cell / 36 % 3 < 2 by omega)) c)
      refine ⟨(by show 3 ≤ sizeLine; decide), fun l4 H4 n4 h4 s4 => ?_⟩
      exact ⟨p, 13, bad, l4, [1, 2, 3], rfl, fa.same (s3.trans s4), hb.sm, rowX h4 (by decide) (by decide), .ofRest (fun z => nb z.1) (fun z => absurd z nb) (qE _ (s3.trans s4))⟩
    · refine ⟨_, rfl, _, _, rfl, rfl, ⟨by decide, by decide⟩, _, _, rfl, rfl, m3, l3, _, _, _, rfl, rfl, SqL.of h3, (by rw [i0]; rfl), ?_⟩
      refine ⟨_, rfl, _, _, rfl, rfl, ⟨by decide, by decide⟩, _, _, rfl, rfl, m3, _, _, rfl, rfl, _, rfl, ?_⟩
      refine ite2 (fun _ => ?_) (fun c => absurd (decide_eq_true (show cell / 36 % 3 < 2 by omega)) c)
      refine ⟨(by show 3 ≤ sizeLine; decide), fun l4 H4 n4 h4 s4 => ?_⟩
      exact ⟨p, 13, 0, l4, [1, 2, 3], rfl, fa.same (s3.trans s4), smk (by decide), rowX h4 (by decide) (by decide), .ofRest (fun z => n0 z.1) (fun z => absurd z n0) (qE _ (s3.trans s4))⟩
    · refine ⟨_, rfl, _, _, rfl, rfl, ⟨by decide, by decide⟩, _, _, rfl, rfl, m3, l3, _, _, _, rfl, rfl, SqL.of h3, (by rw [i0]; rfl), ?_⟩
      refine ⟨_, rfl, _, _, rfl, rfl, ⟨by decide, by decide⟩, _, _, rfl, rfl, m3, _, _, rfl, rfl, _, rfl, ?_⟩
      refine ite2 (fun c => ?_) (fun _ => ?_)
      · have c : cell / 36 % 3 < 2 := of_decide_eq_true c
        omega
      exact ⟨_, rfl, p, 13, 1, lr, xs, rfl, fa.same s3, smk (by decide), rr.same s3, .ofRest (fun z => bn z.2) (fun _ => xn) (qE _ s3)⟩
  -- turned_back
  refine ⟨_, rfl, rfl, _, rfl, ?_⟩
  refine ite2 (fun _ => ?_) (fun _ => ?_)
  · refine ⟨_, rfl, _, rfl, (by show 3 ≤ sizeLine; decide), fun l3 H3 n3 h3 s3 => ?_⟩
    rcases three (cell / 36) with i0 | i0 | i0
    · refine ⟨_, rfl, _, _, rfl, rfl, ⟨by decide, by decide⟩, _, _, rfl, rfl, m3, l3, _, _, _, rfl, rfl, SqL.of h3, (by rw [i0]; rfl), ?_⟩
      refine ⟨_, rfl, _, _, rfl, rfl, ⟨by decide, by decide⟩, _, _, rfl, rfl, m3, _, _, rfl, rfl, _, rfl, ?_⟩
      refine ite2 (fun _ => ?_) (fun c => absurd (decide_eq_true (show cell / 36 % 3 < 2 by omega)) c)
      refine ⟨(by show 0 ≤ sizeLine; decide), fun l4 H4 n4 h4 s4 => ?_⟩
      exact ⟨p, 13, bad, l4, [], rfl, fa.same (s3.trans s4), hb.sm, rowX h4 (by decide) (by decide), .ofRest (fun z => nb z.1) (fun z => absurd z nb) (qE _ (s3.trans s4))⟩
    · refine ⟨_, rfl, _, _, rfl, rfl, ⟨by decide, by decide⟩, _, _, rfl, rfl, m3, l3, _, _, _, rfl, rfl, SqL.of h3, (by rw [i0]; rfl), ?_⟩
      refine ⟨_, rfl, _, _, rfl, rfl, ⟨by decide, by decide⟩, _, _, rfl, rfl, m3, _, _, rfl, rfl, _, rfl, ?_⟩
      refine ite2 (fun _ => ?_) (fun c => absurd (decide_eq_true (show cell / 36 % 3 < 2 by omega)) c)
      refine ⟨(by show 0 ≤ sizeLine; decide), fun l4 H4 n4 h4 s4 => ?_⟩
      exact ⟨p, 13, 0, l4, [], rfl, fa.same (s3.trans s4), smk (by decide), rowX h4 (by decide) (by decide), .ofRest (fun z => n0 z.1) (fun z => absurd z n0) (qE _ (s3.trans s4))⟩
    · refine ⟨_, rfl, _, _, rfl, rfl, ⟨by decide, by decide⟩, _, _, rfl, rfl, m3, l3, _, _, _, rfl, rfl, SqL.of h3, (by rw [i0]; rfl), ?_⟩
      refine ⟨_, rfl, _, _, rfl, rfl, ⟨by decide, by decide⟩, _, _, rfl, rfl, m3, _, _, rfl, rfl, _, rfl, ?_⟩
      refine ite2 (fun c => ?_) (fun _ => ?_)
      · have c : cell / 36 % 3 < 2 := of_decide_eq_true c
        omega
      exact ⟨_, rfl, p, 13, 1, lr, xs, rfl, fa.same s3, smk (by decide), rr.same s3, .ofRest (fun z => bn z.2) (fun _ => xn) (qE _ s3)⟩
  -- worth_at
  refine ⟨_, rfl, rfl, _, rfl, ?_⟩
  refine ite2 (fun _ => ?_) (fun _ => ?_)
  · exact ⟨_, rfl, _, rfl, p, 13, lr, xs, 5, rfl, fa, smk (by decide), rr, .ofRest (fun z => bn z.1) q0⟩
  refine ⟨_, rfl, rfl, _, rfl, ?_⟩
  refine ite2 (fun _ => ?_) (fun _ => ?_)
  · refine ⟨_, rfl, (by show 0 ≤ sizeLine; decide), fun l3 H3 n3 h3 s3 => ?_⟩
    exact ⟨_, rfl, p, 13, l3, [], bad, rfl, fa.same s3, hb.sm, rowX h3 (by decide) (by decide), .ofRest (fun z => hb.no z.2) (qE _ s3)⟩
  -- two rows
  refine ⟨_, rfl, rfl, _, rfl, ?_⟩
  refine ite2 (fun _ => ?_) (fun _ => ?_)
  · refine ⟨_, rfl, _, rfl, (by show 2 ≤ sizeLine; decide), fun l3 H3 n3 h3 s3 => ?_⟩
    exact ⟨_, rfl, _, _, rfl, rfl, ⟨by decide, by decide⟩, _, _, rfl, rfl, m2, 0, _, p, lr, l3, xs, [1, 2], true, 13, rfl, fa.same s3, rr.same s3, rowX h3 (by decide) (by decide), two _, .inl ⟨rfl, rfl, rfl⟩, .ofRest (fun z => bn z.1) fun H' z => qE H' (s3.trans z)⟩
  refine ⟨_, rfl, rfl, _, rfl, ?_⟩
  refine ite2 (fun _ => ?_) (fun _ => ?_)
  · refine ⟨_, rfl, (by show 0 ≤ sizeLine; decide), fun l3 H3 n3 h3 s3 => ?_⟩
    exact ⟨_, rfl, _, rfl, _, _, rfl, rfl, ⟨by decide, by decide⟩, _, _, rfl, rfl, m2, 1, _, p, l3, lr, [], xs, false, 13, rfl, fa.same s3, rowX h3 (by decide) (by decide), rr.same s3, two _, .inr (.inl ⟨rfl, rfl, rfl⟩), .ofRest (fun z => bn z.2) fun H' z => qE H' (s3.trans z)⟩
  -- points
  have k1 : Sm 1 := smk (by decide)
  have k2 : Sm 2 := smk (by decide)
  have k3 : Sm 3 := smk (by decide)
  have k4 : Sm 4 := smk (by decide)
  have k5 : Sm 5 := smk (by decide)
  refine ⟨_, rfl, rfl, _, rfl, ?_⟩
  refine ite2 (fun _ => ?_) (fun _ => ?_)
  · refine ⟨_, rfl, (by show 2 ≤ sizeLine; decide), fun t1 u1 => ?_⟩
    refine ⟨(by show 2 ≤ sizeLine; decide), fun t2 u2 => ?_⟩
    refine ⟨_, rfl, (by show 2 ≤ sizeLine; decide), fun t3 u3 => ?_⟩
    refine ⟨(by show 3 ≤ sizeLine; decide), fun l H4 n4 h4 s4 => ?_⟩
    obtain ⟨pa, sA⟩ := pts3 u1 u2 u3 h4 s4
    exact ⟨p, 13, l, [t1, t2, t3], [(1, 2), (1, 3), (bad, 4)], rfl, fa.same sA, ⟨pa, sm3 ⟨k1, k2, k1, k3, hb.sm, k4⟩, by show 3 ≤ 1000; decide⟩, .ofRest (fun z => hb.no (z 2 (by show 2 < 3; decide)).1) fun H' z => qE H' (sA.trans z)⟩
  refine ⟨_, rfl, rfl, _, rfl, ?_⟩
  refine ite2 (fun _ => ?_) (fun _ => ?_)
  · refine ⟨_, rfl, (by show 2 ≤ sizeLine; decide), fun t1 u1 => ?_⟩
    refine ⟨_, rfl, (by show 2 ≤ sizeLine; decide), fun t2 u2 => ?_⟩
    refine ⟨(by show 2 ≤ sizeLine; decide), fun t3 u3 => ?_⟩
    refine ⟨(by show 3 ≤ sizeLine; decide), fun l H4 n4 h4 s4 => ?_⟩
    obtain ⟨pa, sA⟩ := pts3 u1 u2 u3 h4 s4
    exact ⟨p, 13, l, [t1, t2, t3], [(1, 2), (3, bad), (1, 5)], rfl, fa.same sA, ⟨pa, sm3 ⟨k1, k2, k3, hb.sm, k1, k5⟩, by show 3 ≤ 1000; decide⟩, .ofRest (fun z => hb.no (z 1 (by show 1 < 3; decide)).2) fun H' z => qE H' (sA.trans z)⟩
  -- figures
  refine ⟨(by show 3 ≤ sizeLine; decide), fun lf H3 n3 h3 s3 => ?_⟩
  refine ⟨_, rfl, .inl ⟨rfl, _, SqL.of h3⟩, _, rfl, _, _, rfl, rfl, ⟨by decide, by decide⟩, _, _, rfl, rfl, (by show (0 : Int) < 4; decide), _, rfl, _, rfl, (by show 3 ≤ sizeLine; decide), fun l4 H4 n4 h4 s4 => ?_⟩
  obtain ⟨y, hy, ny, sy⟩ : ∃ y, atI [V.int 10, V.int (-1), V.int bad] (cell / 36 % 3) = some (.int y) ∧ ¬ okR ((10 : Nat) : Int) y ∧ Sm y := by
    rcases three (cell / 36) with i0 | i0 | i0
    · exact ⟨10, by rw [i0]; rfl, fun z => absurd z.2 (by decide), smk (by decide)⟩
    · exact ⟨-1, by rw [i0]; rfl, fun z => absurd z.1 (by decide), smk (by decide)⟩
    · exact ⟨bad, by rw [i0]; rfl, fun z => hb.no ⟨z.1, Int.lt_trans z.2 (by decide)⟩, hb.sm⟩
  refine ⟨_, rfl, _, _, rfl, rfl, ⟨by decide, by decide⟩, _, _, rfl, rfl, m3, l4, _, _, _, rfl, rfl, SqL.of h4, hy, lf, _, _, _, rfl, rfl, s4 _ _ h3, f0, f1, (by show 3 ≤ 1000; decide), fun H5 h5 j5 => ?_⟩
  have s5 : Same H2 H5 := (s3.trans s4).but n3 j5
  have h5 : H5 lf = some (.lst ((insI (cell / 9 % 4).toNat [3, 0, 9] y).map V.int)) := h5.trans (congrArg (fun z => some (HO.lst z)) (ins_map (n := (cell / 9 % 4).toNat) (xs := [3, 0, 9]) (y := y)))
  have rf : RowX K H5 lf (insI (cell / 9 % 4).toNat [3, 0, 9] y) := rowI h5 sy (by decide) (by decide)
  have fno : ¬ okRow ((10 : Nat) : Int) (insI (cell / 9 % 4).toNat [3, 0, 9] y) := insNo ny
  generalize insI (cell / 9 % 4).toNat [3, 0, 9] y = fx at h5 rf fno
  refine ⟨_, rfl, (by show 0 ≤ sizeLine; decide), fun a1 H6 n6 h6 s6 => ?_⟩
  refine ⟨_, rfl, (by show 1 ≤ sizeLine; decide), fun a2 H7 n7 h7 s7 => ?_⟩
  refine ⟨(by show 3 ≤ sizeLine; decide), fun a3 H8 n8 h8 s8 => ?_⟩
  have s58 := (s6.trans s7).trans s8
  have s28 := s5.trans s58
  rcases three (cell / 108) with i0 | i0 | i0
  · exact ⟨_, rfl, _, _, rfl, rfl, ⟨by decide, by decide⟩, _, _, rfl, rfl, m3, a3, _, _, _, rfl, rfl, SqL.of h8, (by rw [i0]; rfl), _, rfl, _, rfl, _, _, rfl, rfl, ⟨by decide, by decide⟩, _, _, rfl, rfl, m2, 2, _, p, a1, lf, [], fx, false, 10, rfl, fa.same s28, rowX (s8 _ _ (s7 _ _ h6)) (by decide) (by decide), rf.same s58, two _, .inr (.inr ⟨rfl, rfl, rfl⟩), .ofRest (fun z => fno z.2) fun H' z => qE H' (s28.trans z)⟩
  · exact ⟨_, rfl, _, _, rfl, rfl, ⟨by decide, by decide⟩, _, _, rfl, rfl, m3, a3, _, _, _, rfl, rfl, SqL.of h8, (by rw [i0]; rfl), _, rfl, _, rfl, _, _, rfl, rfl, ⟨by decide, by decide⟩, _, _, rfl, rfl, m2, 2, _, p, lf, lf, fx, fx, false, 10, rfl, fa.same s28, rf.same s58, rf.same s58, two _, .inr (.inr ⟨rfl, rfl, rfl⟩), .ofRest (fun z => fno z.2) fun H' z => qE H' (s28.trans z)⟩
  · exact ⟨_, rfl, _, _, rfl, rfl, ⟨by decide, by decide⟩, _, _, rfl, rfl, m3, a3, _, _, _, rfl, rfl, SqL.of h8, (by rw [i0]; rfl), _, rfl, _, rfl, _, _, rfl, rfl, ⟨by decide, by decide⟩, _, _, rfl, rfl, m2, 2, _, p, a2, lf, [3], fx, false, 10, rfl, fa.same s28, rowX (s8 _ _ h7) (by decide) (by decide), rf.same s58, two _, .inr (.inr ⟨rfl, rfl, rfl⟩), .ofRest (fun z => fno z.2) fun H' z => qE H' (s28.trans z)⟩
end
end S
namespace S
open PySem L2
section
variable {P : Program} {w : World} {K : PySem.W.Frag} {mg : Str → Option Value} {base : Heap} {C : Addr}
variable {Cp Cr Cw Co S : Addr}
theorem pr13 : NT.Pr 13 := ⟨by decide, fun d h2 hd => (by decide +kernel : ∀ d, d < 13 → 2 ≤ d → 13 % d ≠ 0) d hd h2⟩
theorem pr61 : NT.Pr 61 := ⟨by decide, fun d h2 hd => (by decide +kernel : ∀ d, d < 61 → 2 ≤ d → 61 % d ≠ 0) d hd h2⟩
theorem pr997 : NT.Pr 997 := ⟨by decide, fun d h2 hd => (by decide +kernel : ∀ d, d < 997 → 2 ≤ d → 997 % d ≠ 0) d hd h2⟩
theorem good_of {m : Nat} (h : NT.Pr m) (le : m ≤ 997) : Good (m : Int) := ⟨by have := h.1; omega, by omega, h⟩
/-- a new field of a good prime -/
theorem field_of {C x dx : Addr} {m : Nat} {H H1 : Hp} (pr : NT.Pr m) (le : m ≤ 997) (h : H x = none) {H2 : Hp} (s2 : Same H H2) (h1 : H1 x = some (.ins C dx [(("prime" : Str), V.int (m : Nat))])) (k : ∀ b o, b ≠ x → H2 b = some o → H1 b = some o) : FieldAt C H1 x m ∧ Same H H1 := ⟨⟨⟨dx, h1⟩, pr, le⟩, s2.but h k⟩
def spRefX (C R : Addr) : Sp := fun vs H _ E => ∃ (p : Addr) (cell : Int), vs = [.ref p, .int cell] ∧ FieldAt C H p 13 ∧ ∀ H', Same H H' → E (.ref R) none H'
theorem WorthE.ofRow {Cr Cw : Addr} {m : Nat} {o : Int} {G : Addr → Prop} (h : okR m o) (g : G Cw) : WorthE Cr Cw m [] o G := ⟨fun z => absurd ⟨nilRow, h⟩ z, fun _ _ => ⟨rfl, g⟩⟩
theorem ats3 {a b c : V} {i : Int} (h : i = 0 ∨ i = 1 ∨ i = 2) : (i = 0 ∧ atI [a, b, c] i = some a) ∨ (i = 1 ∧ atI [a, b, c] i = some b) ∨ (i = 2 ∧ atI [a, b, c] i = some c) := by
  rcases h with rfl | rfl | rfl
  · exact .inl ⟨rfl, rfl⟩
  · exact .inr (.inl ⟨rfl, rfl⟩)
  · exact .inr (.inr ⟨rfl, rfl⟩)
theorem ats2 {a b : V} {i : Int} (h : i = 0 ∨ i = 1) : (i = 0 ∧ atI [a, b] i = some a) ∨ (i = 1 ∧ atI [a, b] i = some b) := by
  rcases h with rfl | rfl
  · exact .inl ⟨rfl, rfl⟩
  · exact .inr ⟨rfl, rfl⟩
def ones (n : Nat) : List (Int × Int) := (List.range n).map fun i => (((i : Nat) : Int), (1 : Int))
theorem len_ones {n : Nat} : (ones n).length = n := by
  unfold ones
  rw [List.length_map, List.length_range]
theorem px_ones {n i : Nat} (hi : i < n) : px (ones n) i = (i : Nat) ∧ py (ones n) i = 1 := by
  unfold px py ones
  rw [List.getD_eq_getElem?_getD, List.getElem?_map, List.getElem?_range hi]
  exact ⟨rfl, rfl⟩
theorem sc_law_no_row : FnScope ["field", "cell", "way"] ["field", "cell"] (defScope s_law_no_row) := ⟨rfl, rfl, rfl, by decide +kernel, rfl, by decide +kernel, by decide +kernel⟩
theorem ok_law_no_row {f : Addr} {fd : FuncData} (T : Txt K mg C) (F : Fun K "_law_no_row" "_law_no_row" s_law_no_row f fd) (D_Field : MakeX P w K mg base "Field" C 2 ["self", "prime"] (spInitX C Cp)) (D_turned : DefX P w K mg base "turned" 5 ["field", "root", "row"] (spTurnX K C Cr Cw Co)) (D_turned_back : DefX P w K mg base "turned_back" 5 ["field", "root", "row"] (spTurnX K C Cr Cw Co))
    (D_worth_at : DefX P w K mg base "worth_at" 3 ["field", "row", "one"] (spWorthX K C Cr Cw)) (D_law_two : DefX P w K mg base "_law_two" 5 ["way", "field", "one", "other", "turn"] (spTwoX K C Cr Cw)) (D_row_through : DefX P w K mg base "row_through" 3 ["field", "points"] (spThroughX C Cr Cw)) : FnOk P w K mg base (CXE P w) 6 f fd ["field", "cell"] (spRefX C Cw) := by
  have nd := sc_law_no_row.nd
  refine F.okI sc_law_no_row (fun vs H Q E h => ?_) (fun cdv A outer s H vs Q E hr h => ?_)
  · obtain ⟨p, cell, rfl, _⟩ := h
    rfl
  obtain ⟨p, cell, rfl, fa, qE⟩ := h
  have m3 : (0 : Int) < 3 := by decide
  have m2 : (0 : Int) < 2 := by decide
  refine ⟨_, jss_cons (js_set (i := 2) nd rfl (Or.inl rfl) (je_op op_mod (jv 1) je_int))
    (jss_one (js_if (jt_cmpR op_eq (jv 2) je_int (nomark _)) (jss_one (js_expr (je_callX passJ D_turned (hr.mono (by decide)) rfl (ja_cons (jv 0) (ja_cons je_int (ja_cons (je_lstS ja_nil) ja_nil))))))
    (jss_one (js_if (jt_cmpR op_eq (jv 2) je_int (nomark _)) (jss_one (js_expr (je_callX passJ D_turned_back (hr.mono (by decide)) rfl (ja_cons (jv 0) (ja_cons je_int (ja_cons (je_lstS ja_nil) ja_nil))))))
    (jss_one (js_if (jt_cmpR op_eq (jv 2) je_int (nomark _)) (jss_one (js_expr (je_callX passJ D_worth_at (hr.mono (by decide)) rfl (ja_cons (jv 0) (ja_cons (je_lstS ja_nil) (ja_cons je_int ja_nil))))))
    (jss_one (js_if (jt_cmpR op_eq (jv 2) je_int (nomark _)) (jss_one (js_expr (je_callX passJ D_law_two (hr.mono (by decide)) rfl (ja_cons je_int (ja_cons (jv 0) (ja_cons (je_ix ix_list (je_lstS (ja_cons (je_lstS (ja_cons je_int (ja_cons je_int (ja_cons je_int ja_nil)))) (ja_cons (je_lstS ja_nil) (ja_cons (je_lstS ja_nil) ja_nil)))) (je_op op_mod (je_op op_fdiv (jv 1) je_int) je_int) (fun _ _ => rfl)) (ja_cons (je_ix ix_list (je_lstS (ja_cons (je_lstS (ja_cons je_int (ja_cons je_int ja_nil))) (ja_cons (je_lstS (ja_cons je_int ja_nil)) (ja_cons (je_lstS ja_nil) ja_nil)))) (je_op op_mod (je_op op_fdiv (jv 1) je_int) je_int) (fun _ _ => rfl)) (ja_cons (je_op op_mod (je_op op_fdiv (jv 1) je_int) je_int) ja_nil))))))))
    (jss_one (js_if (jt_cmpR op_eq (jv 2) je_int (nomark _)) (jss_one (js_expr (je_callX passJ D_law_two (hr.mono (by decide)) rfl (ja_cons je_int (ja_cons (jv 0) (ja_cons (je_ix ix_list (je_lstS (ja_cons (je_lstS ja_nil) (ja_cons (je_lstS (ja_cons je_int ja_nil)) ja_nil))) (je_op op_mod (je_op op_fdiv (jv 1) je_int) je_int) (fun _ _ => rfl)) (ja_cons (je_lstS ja_nil) (ja_cons (je_op op_mod (je_op op_fdiv (jv 1) je_int) je_int) ja_nil))))))))
    (jss_one (js_if (jt_cmpR op_eq (jv 2) je_int (nomark _)) (jss_one (js_expr (je_callX passJ D_row_through (hr.mono (by decide)) rfl (ja_cons (jv 0) (ja_cons (je_lstS (ja_cons (je_tup (ja_cons je_int (ja_cons je_int ja_nil))) (ja_cons (je_tup (ja_cons je_int (ja_cons je_int ja_nil))) (ja_cons (je_tup (ja_cons je_int (ja_cons (je_op op_add je_int (je_op op_mod (je_op op_fdiv (jv 1) je_int) je_int)) ja_nil))) ja_nil)))) ja_nil)))))
    (jss_one (js_if (jt_cmpR op_eq (jv 2) je_int (nomark _)) (jss_one (js_expr (je_callX passJ D_row_through (hr.mono (by decide)) rfl (ja_cons (je_makeX passJ D_Field (hr.mono (by decide)) rfl (ja_cons je_int ja_nil)) (ja_cons (je_comp rfl (comp_ok (js := []) (fr := []) (defScope s_law_no_row) ["field", "cell", "way"] (by decide +kernel)) (ji_range1 rfl T.range (ja_cons (je_ix ix_list (je_lstS (ja_cons je_int (ja_cons (je_op op_add je_int (je_op op_mod (je_op op_fdiv (jv 1) je_int) je_int)) ja_nil))) (je_op op_mod (je_op op_fdiv (jv 1) je_int) je_int) (fun _ _ => rfl)) ja_nil)) (fun _ _ _ _ _ => jts_nil) (fun _ _ _ _ _ => je_tup (ja_cons (jv 0) (ja_cons je_int ja_nil)))) ja_nil)))))
    (jss_one (js_expr (je_callX passJ D_law_two (hr.mono (by decide)) rfl (ja_cons je_int (ja_cons (jv 0) (ja_cons (je_ix ix_list (je_lstS (ja_cons (je_lstS ja_nil) (ja_cons (je_lstS (ja_cons je_int ja_nil)) ja_nil))) (je_op op_mod (je_op op_fdiv (jv 1) je_int) je_int) (fun _ _ => rfl)) (ja_cons (je_lstS ja_nil) (ja_cons (je_op op_mod (je_op op_fdiv (jv 1) je_int) je_int) ja_nil)))))))))))))))))))))), ?_⟩
  refine ⟨_, rfl, _, _, rfl, rfl, (by show (0 : Int) < 8; decide), ?_⟩
  refine ⟨_, rfl, rfl, _, rfl, ?_⟩
  refine ite2 (fun _ => ?_) (fun _ => ?_)
  · refine ⟨_, rfl, (by show 0 ≤ sizeLine; decide), fun l3 H3 n3 h3 s3 => ?_⟩
    exact ⟨p, 13, 3, l3, [], rfl, fa.same s3, smk (by decide), rowX h3 (by decide) (by decide), .ofRow (by decide) (qE _ s3)⟩
  refine ⟨_, rfl, rfl, _, rfl, ?_⟩
  refine ite2 (fun _ => ?_) (fun _ => ?_)
  · refine ⟨_, rfl, (by show 0 ≤ sizeLine; decide), fun l3 H3 n3 h3 s3 => ?_⟩
    exact ⟨p, 13, 1, l3, [], rfl, fa.same s3, smk (by decide), rowX h3 (by decide) (by decide), .ofRow (by decide) (qE _ s3)⟩
  refine ⟨_, rfl, rfl, _, rfl, ?_⟩
  refine ite2 (fun _ => ?_) (fun _ => ?_)
  · refine ⟨_, rfl, (by show 0 ≤ sizeLine; decide), fun l3 H3 n3 h3 s3 => ?_⟩
    exact ⟨p, 13, l3, [], 5, rfl, fa.same s3, smk (by decide), rowX h3 (by decide) (by decide), .ofRow (by decide) (qE _ s3)⟩
  -- the ring product
  refine ⟨_, rfl, rfl, _, rfl, ?_⟩
  refine ite2 (fun _ => ?_) (fun _ => ?_)
  · refine ⟨_, rfl, (by show 3 ≤ sizeLine; decide), fun a1 H1 n1 h1 s1 => ?_⟩
    refine ⟨(by show 0 ≤ sizeLine; decide), fun a2 H2 n2 h2 s2 => ?_⟩
    refine ⟨(by show 0 ≤ sizeLine; decide), fun a3 H3 n3 h3 s3 => ?_⟩
    refine ⟨(by show 3 ≤ sizeLine; decide), fun a4 H4 n4 h4 s4 => ?_⟩
    have t4 := ((s1.trans s2).trans s3).trans s4
    rcases ats3 (a := .ref a1) (b := .ref a2) (c := .ref a3) (three (cell / 8)) with ⟨i0, e0⟩ | ⟨i0, e0⟩ | ⟨i0, e0⟩
    · refine ⟨_, rfl, _, _, rfl, rfl, ⟨by decide, by decide⟩, _, _, rfl, rfl, m3, a4, _, _, _, rfl, rfl, SqL.of h4, e0, ?_⟩
      refine ⟨(by show 2 ≤ sizeLine; decide), fun b1 H5 n5 h5 s5 => ?_⟩
      refine ⟨(by show 1 ≤ sizeLine; decide), fun b2 H6 n6 h6 s6 => ?_⟩
      refine ⟨(by show 0 ≤ sizeLine; decide), fun b3 H7 n7 h7 s7 => ?_⟩
      refine ⟨(by show 3 ≤ sizeLine; decide), fun b4 H8 n8 h8 s8 => ?_⟩
      have t8 := ((s5.trans s6).trans s7).trans s8
      exact ⟨_, rfl, _, _, rfl, rfl, ⟨by decide, by decide⟩, _, _, rfl, rfl, m3, b4, _, _, _, rfl, rfl, SqL.of h8, (by rw [i0]; rfl), _, rfl, _, _, rfl, rfl, ⟨by decide, by decide⟩, _, _, rfl, rfl, m2, 0, _, p, a1, b1, [1, 2, 3], [1, 2], true, 13, rfl, fa.same (t4.trans t8), rowX (t8 _ _ (s4 _ _ (s3 _ _ (s2 _ _ h1)))) (by decide) (by decide), rowX (s8 _ _ (s7 _ _ (s6 _ _ h5))) (by decide) (by decide), two _, .inl ⟨rfl, rfl, rfl⟩, .ofRow (by decide) (.inr (.inr ⟨rfl, by decide⟩)) fun H' z => qE H' ((t4.trans t8).trans z)⟩
    · refine ⟨_, rfl, _, _, rfl, rfl, ⟨by decide, by decide⟩, _, _, rfl, rfl, m3, a4, _, _, _, rfl, rfl, SqL.of h4, e0, ?_⟩
      refine ⟨(by show 2 ≤ sizeLine; decide), fun b1 H5 n5 h5 s5 => ?_⟩
      refine ⟨(by show 1 ≤ sizeLine; decide), fun b2 H6 n6 h6 s6 => ?_⟩
      refine ⟨(by show 0 ≤ sizeLine; decide), fun b3 H7 n7 h7 s7 => ?_⟩
      refine ⟨(by show 3 ≤ sizeLine; decide), fun b4 H8 n8 h8 s8 => ?_⟩
      have t8 := ((s5.trans s6).trans s7).trans s8
      exact ⟨_, rfl, _, _, rfl, rfl, ⟨by decide, by decide⟩, _, _, rfl, rfl, m3, b4, _, _, _, rfl, rfl, SqL.of h8, (by rw [i0]; rfl), _, rfl, _, _, rfl, rfl, ⟨by decide, by decide⟩, _, _, rfl, rfl, m2, 0, _, p, a2, b2, [], [1], true, 13, rfl, fa.same (t4.trans t8), rowX (t8 _ _ (s4 _ _ (s3 _ _ h2))) (by decide) (by decide), rowX (s8 _ _ (s7 _ _ h6)) (by decide) (by decide), two _, .inl ⟨rfl, rfl, rfl⟩, .ofRow (by decide) (.inl rfl) fun H' z => qE H' ((t4.trans t8).trans z)⟩
    · refine ⟨_, rfl, _, _, rfl, rfl, ⟨by decide, by decide⟩, _, _, rfl, rfl, m3, a4, _, _, _, rfl, rfl, SqL.of h4, e0, ?_⟩
      refine ⟨(by show 2 ≤ sizeLine; decide), fun b1 H5 n5 h5 s5 => ?_⟩
      refine ⟨(by show 1 ≤ sizeLine; decide), fun b2 H6 n6 h6 s6 => ?_⟩
      refine ⟨(by show 0 ≤ sizeLine; decide), fun b3 H7 n7 h7 s7 => ?_⟩
      refine ⟨(by show 3 ≤ sizeLine; decide), fun b4 H8 n8 h8 s8 => ?_⟩
      have t8 := ((s5.trans s6).trans s7).trans s8
      exact ⟨_, rfl, _, _, rfl, rfl, ⟨by decide, by decide⟩, _, _, rfl, rfl, m3, b4, _, _, _, rfl, rfl, SqL.of h8, (by rw [i0]; rfl), _, rfl, _, _, rfl, rfl, ⟨by decide, by decide⟩, _, _, rfl, rfl, m2, 0, _, p, a3, b3, [], [], true, 13, rfl, fa.same (t4.trans t8), rowX (t8 _ _ (s4 _ _ h3)) (by decide) (by decide), rowX (s8 _ _ h7) (by decide) (by decide), two _, .inl ⟨rfl, rfl, rfl⟩, .ofRow (by decide) (.inl rfl) fun H' z => qE H' ((t4.trans t8).trans z)⟩
  -- the plain product
  refine ⟨_, rfl, rfl, _, rfl, ?_⟩
  refine ite2 (fun _ => ?_) (fun _ => ?_)
  · refine ⟨_, rfl, (by show 0 ≤ sizeLine; decide), fun a1 H1 n1 h1 s1 => ?_⟩
    refine ⟨(by show 1 ≤ sizeLine; decide), fun a2 H2 n2 h2 s2 => ?_⟩
    refine ⟨(by show 2 ≤ sizeLine; decide), fun a3 H3 n3 h3 s3 => ?_⟩
    have t3 := (s1.trans s2).trans s3
    rcases ats2 (a := .ref a1) (b := .ref a2) (two (cell / 8)) with ⟨i0, e0⟩ | ⟨i0, e0⟩
    · refine ⟨_, rfl, _, _, rfl, rfl, ⟨by decide, by decide⟩, _, _, rfl, rfl, m2, a3, _, _, _, rfl, rfl, SqL.of h3, e0, ?_⟩
      refine ⟨(by show 0 ≤ sizeLine; decide), fun b1 H4 n4 h4 s4 => ?_⟩
      exact ⟨_, rfl, _, _, rfl, rfl, ⟨by decide, by decide⟩, _, _, rfl, rfl, m2, 1, _, p, a1, b1, [], [], false, 13, rfl, fa.same (t3.trans s4), rowX (s4 _ _ (s3 _ _ (s2 _ _ h1))) (by decide) (by decide), rowX h4 (by decide) (by decide), two _, .inr (.inl ⟨rfl, rfl, rfl⟩), .ofRow (by decide) (.inl rfl) fun H' z => qE H' ((t3.trans s4).trans z)⟩
    · refine ⟨_, rfl, _, _, rfl, rfl, ⟨by decide, by decide⟩, _, _, rfl, rfl, m2, a3, _, _, _, rfl, rfl, SqL.of h3, e0, ?_⟩
      refine ⟨(by show 0 ≤ sizeLine; decide), fun b1 H4 n4 h4 s4 => ?_⟩
      exact ⟨_, rfl, _, _, rfl, rfl, ⟨by decide, by decide⟩, _, _, rfl, rfl, m2, 1, _, p, a2, b1, [1], [], false, 13, rfl, fa.same (t3.trans s4), rowX (s4 _ _ (s3 _ _ h2)) (by decide) (by decide), rowX h4 (by decide) (by decide), two _, .inr (.inl ⟨rfl, rfl, rfl⟩), .ofRow (by decide) (.inr (.inl rfl)) fun H' z => qE H' ((t3.trans s4).trans z)⟩
  -- points
  refine ⟨_, rfl, rfl, _, rfl, ?_⟩
  refine ite2 (fun _ => ?_) (fun _ => ?_)
  · refine ⟨_, rfl, (by show 2 ≤ sizeLine; decide), fun t1 u1 => ?_⟩
    refine ⟨(by show 2 ≤ sizeLine; decide), fun t2 u2 => ?_⟩
    refine ⟨_, rfl, _, _, rfl, rfl, ⟨by decide, by decide⟩, _, _, rfl, rfl, m3, _, _, rfl, rfl, (by show 2 ≤ sizeLine; decide), fun t3 u3 => ?_⟩
    refine ⟨(by show 3 ≤ sizeLine; decide), fun l H4 n4 h4 s4 => ?_⟩
    obtain ⟨pa, sA⟩ := pts3 u1 u2 u3 h4 s4
    have k : ∀ n : Int, n.natAbs < 1000000 → Sm n := fun n h => smk h
    have b0 : 0 ≤ cell / 8 % 3 := Int.emod_nonneg _ (by decide)
    have b1 : cell / 8 % 3 < 3 := Int.emod_lt_of_pos _ (by decide)
    refine ⟨p, 13, l, [t1, t2, t3], [(1, 2), (4, 2), (1, 2 + cell / 8 % 3)], rfl, fa.same sA, ⟨pa, sm3 ⟨k _ (by decide), k _ (by decide), k _ (by decide), k _ (by decide), k _ (by decide), k _ (by omega)⟩, by show 3 ≤ 1000; decide⟩, ⟨fun z => absurd ?_ z, fun _ => ⟨.inr (.inr ?_), fun H' z => qE H' (sA.trans z)⟩⟩⟩
    · intro i hi
      match i, hi with
      | 0, _ => exact ⟨⟨(by decide : (0 : Int) ≤ 1), (by decide : (1 : Int) < 13)⟩, ⟨(by decide : (0 : Int) ≤ 2), (by decide : (2 : Int) < 13)⟩⟩
      | 1, _ => exact ⟨⟨(by decide : (0 : Int) ≤ 4), (by decide : (4 : Int) < 13)⟩, ⟨(by decide : (0 : Int) ≤ 2), (by decide : (2 : Int) < 13)⟩⟩
      | 2, _ => exact ⟨⟨(by decide : (0 : Int) ≤ 1), (by decide : (1 : Int) < 13)⟩, ⟨(by omega : (0 : Int) ≤ 2 + cell / 8 % 3), (by omega : 2 + cell / 8 % 3 < (13 : Int))⟩⟩
      | i + 3, hi => exact absurd (show i + 3 < 3 from hi) (by omega)
    · show (distinct [1, 4, 1]).length ≠ 3
      decide
  refine ⟨_, rfl, rfl, _, rfl, ?_⟩
  refine ite2 (fun _ => ?_) (fun _ => ?_)
  · refine fun x dx H1 nx hx sx => ⟨x, dx, 997, rfl, hx, smk (by decide), fun _ H2 h2 k2 => ⟨rfl, ?_⟩, fun ng => absurd (good_of pr997 (by decide)) ng⟩
    obtain ⟨fx, s2⟩ := field_of pr997 (by decide) nx sx h2 k2
    refine ⟨_, rfl, _, _, rfl, rfl, ⟨by decide, by decide⟩, _, _, rfl, rfl, (by show (0 : Int) < 28; decide), _, _, rfl, rfl, (by show 2 ≤ sizeLine; decide), fun l3 H3 n3 h3 s3 => ?_⟩
    have b0 : 0 ≤ cell / 16 % 28 := Int.emod_nonneg _ (by decide)
    have b1 : cell / 16 % 28 < 28 := Int.emod_lt_of_pos _ (by decide)
    obtain ⟨n, e0, hn⟩ : ∃ n : Nat, atI [V.int 0, V.int (33 + cell / 16 % 28)] (cell / 8 % 2) = some (.int (n : Nat)) ∧ (n = 0 ∨ 32 < n) ∧ n ≤ 60 := by
      rcases ats2 (a := .int 0) (b := .int (33 + cell / 16 % 28)) (two (cell / 8)) with ⟨i0, e0⟩ | ⟨i0, e0⟩
      · exact ⟨0, e0, .inl rfl, by decide⟩
      · refine ⟨(33 + cell / 16 % 28).toNat, e0.trans ?_, .inr (by omega), by omega⟩
        rw [Int.toNat_of_nonneg (by omega)]
    refine ⟨_, rfl, _, _, rfl, rfl, ⟨by decide, by decide⟩, _, _, rfl, rfl, m2, l3, _, _, _, rfl, rfl, SqL.of h3, e0, _, rfl, by omega, by omega, ?_⟩
    rw [Int.toNat_natCast]
    refine comp_tups (fun i => [V.int (i : Nat), V.int 1]) (small (by omega)) (fun i H4 R hi hR => ?_) (fun ts H4 hts s4 tp => ?_)
    · refine ⟨_, rfl, (by show 2 ≤ sizeLine; decide), fun t ht => ?_⟩
      rw [Int.zero_add]
      exact hR t ht
    intro l H5 n5 h5 s5
    have s05 := ((s2.trans s3).trans s4).trans s5
    have pa : PtsAt H5 l ts (ones n) := ⟨h5, by rw [hts, len_ones], fun i t e => by
      have hi : i < n := by rw [← hts]; exact lt_some e
      rw [(px_ones hi).1, (px_ones hi).2]
      exact s5 _ _ (tp i t e)⟩
    refine ⟨x, 997, l, ts, ones n, rfl, (fx.same s3).same (s4.trans s5), ⟨pa, fun i hi => ?_, by rw [len_ones]; omega⟩, ⟨fun z => absurd (fun i hi => ?_) z, fun _ => ⟨?_, fun H' z => qE H' (s05.trans z)⟩⟩⟩
    · rw [len_ones] at hi
      rw [(px_ones hi).1, (px_ones hi).2]
      exact ⟨smk (by omega), smk (by decide)⟩
    · rw [len_ones] at hi
      rw [(px_ones hi).1, (px_ones hi).2]
      exact ⟨⟨by omega, by omega⟩, ⟨by decide, by decide⟩⟩
    · rw [len_ones]
      rcases hn.1 with z | z
      · exact .inl z
      · exact .inr (.inl z)
  -- long numbers
  refine ⟨_, rfl, (by show 0 ≤ sizeLine; decide), fun a1 H1 n1 h1 s1 => ?_⟩
  refine ⟨(by show 1 ≤ sizeLine; decide), fun a2 H2 n2 h2 s2 => ?_⟩
  refine ⟨(by show 2 ≤ sizeLine; decide), fun a3 H3 n3 h3 s3 => ?_⟩
  have t3 := (s1.trans s2).trans s3
  rcases ats2 (a := .ref a1) (b := .ref a2) (two (cell / 8)) with ⟨i0, e0⟩ | ⟨i0, e0⟩
  · refine ⟨_, rfl, _, _, rfl, rfl, ⟨by decide, by decide⟩, _, _, rfl, rfl, m2, a3, _, _, _, rfl, rfl, SqL.of h3, e0, ?_⟩
    refine ⟨(by show 0 ≤ sizeLine; decide), fun b1 H4 n4 h4 s4 => ?_⟩
    exact ⟨_, rfl, _, _, rfl, rfl, ⟨by decide, by decide⟩, _, _, rfl, rfl, m2, 2, _, p, a1, b1, [], [], false, 10, rfl, fa.same (t3.trans s4), rowX (s4 _ _ (s3 _ _ (s2 _ _ h1))) (by decide) (by decide), rowX h4 (by decide) (by decide), two _, .inr (.inr ⟨rfl, rfl, rfl⟩), .ofRow (by decide) (.inl rfl) fun H' z => qE H' ((t3.trans s4).trans z)⟩
  · refine ⟨_, rfl, _, _, rfl, rfl, ⟨by decide, by decide⟩, _, _, rfl, rfl, m2, a3, _, _, _, rfl, rfl, SqL.of h3, e0, ?_⟩
    refine ⟨(by show 0 ≤ sizeLine; decide), fun b1 H4 n4 h4 s4 => ?_⟩
    exact ⟨_, rfl, _, _, rfl, rfl, ⟨by decide, by decide⟩, _, _, rfl, rfl, m2, 2, _, p, a2, b1, [0], [], false, 10, rfl, fa.same (t3.trans s4), rowX (s4 _ _ (s3 _ _ h2)) (by decide) (by decide), rowX h4 (by decide) (by decide), two _, .inr (.inr ⟨rfl, rfl, rfl⟩), .ofRow (by decide) (.inr (.inl rfl)) fun H' z => qE H' ((t3.trans s4).trans z)⟩
end
end S
namespace S
open PySem L2
section
variable {P : Program} {w : World} {K : PySem.W.Frag} {mg : Str → Option Value} {base : Heap} {C : Addr}
variable {Cp Cr Cw Co S : Addr}
def spLO : Sp := fun vs H Q _ => ∃ a : Int, vs = [.int a] ∧ 0 < a ∧ a < 61 ∧ Q (.int (NT.ordZ 61 a : Nat)) H
theorem sc_law_order : FnScope ["one", "here", "found"] ["one"] (defScope s_law_order) := ⟨rfl, rfl, rfl, by decide +kernel, rfl, by decide +kernel, by decide +kernel⟩
theorem ok_law_order {f : Addr} {fd : FuncData} (F : Fun K "_law_order" "_law_order" s_law_order f fd) : FnOk P w K mg base CX0 1 f fd ["one"] spLO := by
  have nd := sc_law_order.nd
  refine F.okJ sc_law_order (fun vs H Q E h => ?_) (fun cdv A outer s H vs Q E hr h => ?_)
  · obtain ⟨a, rfl, _⟩ := h
    rfl
  obtain ⟨a, rfl, a0, a1, q⟩ := h
  have ord := NT.ordZ_ok pr61 (by decide) a0 a1
  have o1 : a ^ NT.ordZ 61 a % (61 : Int) = 1 := ord.one
  refine ⟨_, jss_cons (js_set (i := 1) nd rfl (Or.inl rfl) (jv 0))
    (jss_cons (js_set (i := 2) nd rfl (Or.inl rfl) je_int)
    (jss_cons (js_while PassesOwn.never (jt_cmpR op_ne (jv 1) je_int (nomark _))
    (jss_cons (js_set (i := 1) nd rfl (Or.inl rfl) (je_op op_mod (je_op op_mul (jv 1) (jv 0)) je_int))
    (jss_one (js_set (i := 2) nd rfl (Or.inl rfl) (je_op op_add (jv 2) je_int)))))
    (jss_one (js_ret (jv 2))))), ?_⟩
  refine ⟨_, rfl, ?_⟩
  -- while here != 1
  refine ⟨fun k σ H' => ∃ n : Nat, σ = [some (.int a), some (.int (a ^ n % 61)), some (.int n)] ∧ H' = H ∧ k = 61 - n ∧ 1 ≤ n ∧ n ≤ NT.ordZ 61 a,
    ⟨_, 1, by rw [Int.pow_succ, Int.pow_zero, Int.one_mul, Int.emod_eq_of_lt (by omega) a1]; rfl, rfl, rfl, Nat.le_refl _, ord.pos⟩, ?_⟩
  rintro k σ H' ⟨n, rfl, rfl, rfl, n1, n2⟩
  have b0 : 0 ≤ a ^ n % (61 : Int) := Int.emod_nonneg _ (by omega)
  have b1 : a ^ n % (61 : Int) < 61 := Int.emod_lt_of_pos _ (by decide)
  refine ⟨_, rfl, rfl, _, rfl, ?_⟩
  refine ite2 (fun c => ?_) (fun c => ?_)
  · have c : ¬ a ^ n % (61 : Int) = 1 := fun z => by
      rw [z] at c
      exact absurd c (by decide)
    have nlt : n < NT.ordZ 61 a := by
      rcases Nat.lt_or_ge n (NT.ordZ 61 a) with z | z
      · exact z
      · have : n = NT.ordZ 61 a := by omega
        exact absurd o1 (by rw [← this]; exact c)
    have nm := ord.le pr61 (by decide) a0 a1
    refine ⟨fun σ' H2 => σ' = [some (.int a), some (.int (a ^ (n + 1) % 61)), some (.int ((n : Int) + 1))] ∧ H2 = H', fun σ' H2 z => ⟨61 - (n + 1), by omega, n + 1, z.1, z.2, rfl, by omega, nlt⟩, ?_⟩
    refine ⟨_, rfl, _, rfl, _, _, rfl, rfl, .inl ⟨by omega, by omega⟩, _, _, rfl, rfl, (by show (0 : Int) < 61; decide), ?_⟩
    refine ⟨_, rfl, _, _, rfl, rfl, ?_, rfl⟩
    have e : a ^ n % (61 : Int) * a % 61 = a ^ (n + 1) % 61 := by
      rw [Int.pow_succ, Int.mul_emod, Int.emod_emod, ← Int.mul_emod]
    rw [← e]
    rfl
  · have c : a ^ n % (61 : Int) = 1 := by
      rcases Decidable.em (a ^ n % (61 : Int) = 1) with z | z
      · exact z
      · refine absurd ?_ c
        rw [decide_eq_false fun y => z (V.int.inj y)]
        rfl
    have e : n = NT.ordZ 61 a := by
      rcases Nat.lt_or_ge n (NT.ordZ 61 a) with z | z
      · exact absurd c (ord.least n n1 z)
      · omega
    refine ⟨_, rfl, ?_⟩
    rw [e]
    exact q
theorem at_lit {xs : List Int} {i : Int} {n : Nat} (h0 : 0 ≤ i) (h1 : i.toNat < n) (hn : n = xs.length) : atI (xs.map V.int) i = some (.int (xs.getD i.toNat 0)) := by
  have e : i = ((i.toNat : Nat) : Int) := by omega
  generalize i.toNat = j at e h1
  subst e
  refine atI_nat ?_
  rw [List.getElem?_map, List.getElem?_eq_getElem (by omega), List.getD_eq_getElem?_getD, List.getElem?_eq_getElem (by omega)]
  rfl
theorem roots13 : ∀ j, j < 10 → 0 < ([1, 2, 3, 4, 6, 7, 9, 10, 11, 12] : List Int).getD j 0 ∧ ([1, 2, 3, 4, 6, 7, 9, 10, 11, 12] : List Int).getD j 0 < 13 ∧ NT.ordZ 13 (([1, 2, 3, 4, 6, 7, 9, 10, 11, 12] : List Int).getD j 0) ≠ 4 := by decide +kernel
theorem sizes61 : ∀ j, j < 8 → 3 ≤ ([6, 4, 12, 15, 20, 10, 30, 3] : List Int).getD j 0 ∧ ([6, 4, 12, 15, 20, 10, 30, 3] : List Int).getD j 0 ≤ 30 := by decide +kernel
theorem sc_law_no_root : FnScope ["field", "cell", "row", "root"] ["field", "cell"] (defScope s_law_no_root) := ⟨rfl, rfl, rfl, by decide +kernel, rfl, by decide +kernel, by decide +kernel⟩
theorem ok_law_no_root {f : Addr} {fd : FuncData} (T : Txt K mg C) (F : Fun K "_law_no_root" "_law_no_root" s_law_no_root f fd) (D_Field : MakeX P w K mg base "Field" C 2 ["self", "prime"] (spInitX C Cp)) (D_turned : DefX P w K mg base "turned" 5 ["field", "root", "row"] (spTurnX K C Cr Cw Co)) (D_turned_back : DefX P w K mg base "turned_back" 5 ["field", "root", "row"] (spTurnX K C Cr Cw Co))
    (D_law_order : DefOk P w K mg base "_law_order" 1 ["one"] spLO) : FnOk P w K mg base (CXE P w) 6 f fd ["field", "cell"] (spRefX C Co) := by
  have nd := sc_law_no_root.nd
  refine F.okI sc_law_no_root (fun vs H Q E h => ?_) (fun cdv A outer s H vs Q E hr h => ?_)
  · obtain ⟨p, cell, rfl, _⟩ := h
    rfl
  obtain ⟨p, cell, rfl, fa, qE⟩ := h
  obtain ⟨t3, ht3, hread⟩ : ∃ tt, JSs (cxI P w K mg base ["field", "cell", "row", "root"] "_law_no_root" (defScope s_law_no_root) f cdv A outer s H E) (List.drop 3 (defBody s_law_no_root)) tt ∧
      ∀ (q : Addr) (m : Nat) (r : Int) (l : Addr) (xs : List Int) (H1 : Hp), FieldAt C H1 q m → Sm r → RowX K H1 l xs → okA m r → okRow m xs → xs ≠ [] → NT.ordZ m r ≠ xs.length → Same H H1 → tt { nx := fun _ H' => Q .non H', rt := Q } [some (.ref q), some (.int cell), some (.ref l), some (.int r)] H1 := by
    refine ⟨_, jss_one (js_if (jt_cmpR op_eq (je_op op_mod (jv 1) je_int) je_int (nomark _)) (jss_one (js_expr (je_callX passJ D_turned (hr.mono (by decide)) rfl (ja_cons (jv 0) (ja_cons (jv 3) (ja_cons (jv 2) ja_nil))))))
    (jss_one (js_expr (je_callX passJ D_turned_back (hr.mono (by decide)) rfl (ja_cons (jv 0) (ja_cons (jv 3) (ja_cons (jv 2) ja_nil))))))), fun q m r l xs H1 fq sr rl a1 a2 a3 a4 s1 => ?_⟩
    refine ⟨_, rfl, _, _, rfl, rfl, (by show (0 : Int) < 2; decide), rfl, _, rfl, ?_⟩
    refine ite2 (fun _ => ?_) (fun _ => ?_)
    · exact ⟨_, rfl, _, rfl, _, rfl, q, m, r, l, xs, rfl, fq, sr, rl, .ofRoot a1 a2 a3 a4 (qE _ s1)⟩
    · exact ⟨_, rfl, _, rfl, _, rfl, q, m, r, l, xs, rfl, fq, sr, rl, .ofRoot a1 a2 a3 a4 (qE _ s1)⟩
  refine ⟨_, jss_cons (js_set (i := 2) nd rfl (Or.inl rfl) (je_lstS (ja_cons je_int (ja_cons je_int (ja_cons je_int (ja_cons je_int ja_nil))))))
    (jss_cons (js_set (i := 3) nd rfl (Or.inl rfl) (je_ix ix_list (je_lstS (ja_ints (.cons (.cons (.cons (.cons (.cons (.cons (.cons (.cons (.cons (.cons .nil)))))))))))) (je_op op_mod (je_op op_fdiv (jv 1) je_int) je_int) (fun _ _ => rfl)))
    (jss_cons (js_if (jt_cmpR op_gt (je_op op_mod (je_op op_fdiv (jv 1) je_int) je_int) je_int (nomark _)) (jss_cons (js_set (i := 0) nd rfl (Or.inl rfl) (je_makeX passJ D_Field (hr.mono (by decide)) rfl (ja_cons je_int ja_nil)))
    (jss_cons (js_set (i := 2) nd rfl (Or.inl rfl) (je_callTy (call_list_rng rfl) rfl T.list (by rfl) (ja_cons (je_callTy call_rangeV rfl T.range (by rfl) (ja_cons (je_ix ix_list (je_lstS (ja_ints (.cons (.cons (.cons (.cons (.cons (.cons (.cons (.cons .nil)))))))))) (je_op op_mod (je_op op_fdiv (jv 1) je_int) je_int) (fun _ _ => rfl)) ja_nil)) ja_nil)))
    (jss_cons (js_set (i := 3) nd rfl (Or.inl rfl) (je_op op_add je_int (je_op op_mod (je_op op_fdiv (jv 1) je_int) je_int)))
    (jss_one (js_while loopJ (jt_cmpR op_eq (je_callD D_law_order (hr.mono (by decide)) rfl (ja_cons (jv 3) ja_nil)) (je_callB call_len_seq rfl T.len (by rfl) (ja_cons (jv 2) ja_nil)) (nomark _))
    (jss_one (js_set (i := 3) nd rfl (Or.inl rfl) (je_op op_add je_int (je_op op_mod (jv 3) je_int)))))))))
    (jss_nil))
    (ht3))), ?_⟩
  refine ⟨(by show 4 ≤ sizeLine; decide), fun lr H1 n1 h1 s1 => ?_⟩
  refine ⟨(by show 10 ≤ sizeLine; decide), fun l2 H2 n2 h2 s2 => ?_⟩
  have c0 : 0 ≤ cell / 2 % 10 := Int.emod_nonneg _ (by decide)
  have c1 : cell / 2 % 10 < 10 := Int.emod_lt_of_pos _ (by decide)
  obtain ⟨g1, g2, g3⟩ := roots13 (cell / 2 % 10).toNat (by omega)
  have e0 := at_lit (xs := [1, 2, 3, 4, 6, 7, 9, 10, 11, 12]) (n := 10) c0 (by omega) rfl
  generalize ([1, 2, 3, 4, 6, 7, 9, 10, 11, 12] : List Int).getD (cell / 2 % 10).toNat 0 = r at g1 g2 g3 e0
  refine ⟨_, rfl, _, _, rfl, rfl, ⟨by decide, by decide⟩, _, _, rfl, rfl, (by show (0 : Int) < 10; decide), l2, _, _, _, rfl, rfl, SqL.of h2, e0, ?_⟩
  refine ⟨_, rfl, _, _, rfl, rfl, ⟨by decide, by decide⟩, _, _, rfl, rfl, (by show (0 : Int) < 3; decide), _, _, rfl, rfl, _, rfl, ?_⟩
  refine ite2 (fun _ => ?_) (fun _ => hread p 13 r lr [1, 2, 3, 4] H2 (fa.same (s1.trans s2)) (smk (by omega)) (rowX (s2 _ _ h1) (by decide) (by decide)) ⟨g1, g2⟩ (by decide) (by decide) g3 (s1.trans s2))
  refine fun x dx H3 nx hx sx => ⟨x, dx, 61, rfl, hx, smk (by decide), fun _ H4 h4 k4 => ⟨rfl, ?_⟩, fun ng => absurd (good_of pr61 (by decide)) ng⟩
  obtain ⟨fx, s4⟩ := field_of pr61 (by decide) nx sx h4 k4
  refine ⟨(by show 8 ≤ sizeLine; decide), fun l5 H5 n5 h5 s5 => ?_⟩
  have d0 : 0 ≤ cell / 60 % 8 := Int.emod_nonneg _ (by decide)
  have d1 : cell / 60 % 8 < 8 := Int.emod_lt_of_pos _ (by decide)
  obtain ⟨w1, w2⟩ := sizes61 (cell / 60 % 8).toNat (by omega)
  have e5 := at_lit (xs := [6, 4, 12, 15, 20, 10, 30, 3]) (n := 8) d0 (by omega) rfl
  generalize ([6, 4, 12, 15, 20, 10, 30, 3] : List Int).getD (cell / 60 % 8).toNat 0 = n at w1 w2 e5
  refine ⟨_, rfl, _, _, rfl, rfl, ⟨by decide, by decide⟩, _, _, rfl, rfl, (by show (0 : Int) < 8; decide), l5, _, _, _, rfl, rfl, SqL.of h5, e5, n, rfl, fun rg H6 n6 h6 s6 => ?_⟩
  refine ⟨rg, n, rfl, h6, by omega, by omega, fun l7 H7 n7 h7 s7 => ?_⟩
  rw [range_ints] at h7
  have s07 : Same H H7 := (s1.trans s2).trans (((s4.trans s5).trans s6).trans s7)
  have fx7 := fx.same ((s5.trans s6).trans s7)
  have xl : ((List.range n.toNat).map fun k => ((k : Nat) : Int)).length = n.toNat := by rw [List.length_map, List.length_range]
  have xr : ∀ x ∈ ((List.range n.toNat).map fun k => ((k : Nat) : Int)), 0 ≤ x ∧ x < 30 := fun x hx => by
    obtain ⟨k, hk, rfl⟩ := List.mem_map.mp hx
    have := List.mem_range.mp hk
    exact ⟨by omega, by omega⟩
  generalize ((List.range n.toNat).map fun k => ((k : Nat) : Int)) = xs at h7 xl xr
  have hlx := len_ints xs
  have rx : RowX K H7 l7 xs := rowX h7 (fun x hx => by have := xr x hx; omega) (by omega)
  have m60 : (0 : Int) < 60 := by decide
  refine ⟨_, rfl, _, _, rfl, rfl, ⟨by decide, by decide⟩, _, _, rfl, rfl, m60, _, _, rfl, rfl, ?_⟩
  have v0 : 0 ≤ cell / 480 % 60 := Int.emod_nonneg _ (by decide)
  have v1 : cell / 480 % 60 < 60 := Int.emod_lt_of_pos _ (by decide)
  refine ⟨fun k σ H' => ∃ r : Int, σ = [some (.ref x), some (.int cell), some (.ref l7), some (.int r)] ∧ H' = H7 ∧ 1 ≤ r ∧ r ≤ 60 ∧ k = (if r = 1 then 0 else (61 - r).toNat), ⟨_, 1 + cell / 480 % 60, rfl, rfl, by omega, by omega, rfl⟩, ?_⟩
  rintro k σ H' ⟨r, rfl, rfl, r1, r2, rfl⟩
  refine ⟨_, rfl, r, rfl, by omega, by omega, _, rfl, l7, _, rfl, .inl rx.sq, rfl, _, rfl, ?_⟩
  refine ite2 (fun c => ?_) (fun c => ?_)
  · have c : V.int ((NT.ordZ 61 r : Nat) : Int) = V.int (((xs.map V.int).length : Nat) : Int) := of_decide_eq_true c
    have c := V.int.inj c
    have rn : r ≠ 1 := fun z => by
      subst z
      have : NT.ordZ 61 1 = 1 := by decide +kernel
      omega
    refine ⟨fun σ' H2 => σ' = [some (.ref x), some (.int cell), some (.ref l7), some (.int (1 + r % 60))] ∧ H2 = H', fun σ' H2 z => ⟨_, ?_, 1 + r % 60, z.1, z.2, by omega, by omega, rfl⟩, ?_⟩
    · rw [if_neg rn]
      split <;> omega
    · exact ⟨_, rfl, _, _, rfl, rfl, m60, _, _, rfl, rfl, rfl, rfl⟩
  · refine hread x 61 r l7 xs H' fx7 (smk (by omega)) rx ⟨by omega, by omega⟩ (fun y hy => ⟨(xr y hy).1, by have := (xr y hy).2; omega⟩) (fun z => by rw [z] at xl; simp at xl; omega) (fun z => c (decide_eq_true ?_)) s07
    rw [z, hlx]
end
end S
namespace S
open PySem L2
section
variable {P : Program} {w : World} {K : PySem.W.Frag} {mg : Str → Option Value} {base : Heap} {C : Addr}
variable {Cp Cr Cw Co S : Addr}
theorem six (x : Int) : x % 6 = 0 ∨ x % 6 = 1 ∨ x % 6 = 2 ∨ x % 6 = 3 ∨ x % 6 = 4 ∨ x % 6 = 5 := by omega
theorem no4 : ¬ NT.Pr 4 := fun h => h.2 2 (by decide) (by decide) (by decide)
theorem noGood {i : Int} (h : i = 0 ∨ i = 1 ∨ i = 2 ∨ i = 3 ∨ i = 4 ∨ i = 5) : ∃ n : Int, atI [V.int 0, V.int 1, V.int (-7), V.int 4, V.int 998, V.int 1009] i = some (.int n) ∧ ¬ Good n ∧ n.natAbs < 1000000 := by
  rcases h with rfl | rfl | rfl | rfl | rfl | rfl
  · exact ⟨0, rfl, fun g => absurd g.1 (by decide), by decide⟩
  · exact ⟨1, rfl, fun g => absurd g.1 (by decide), by decide⟩
  · exact ⟨-7, rfl, fun g => absurd g.1 (by decide), by decide⟩
  · exact ⟨4, rfl, fun g => no4 g.2.2, by decide⟩
  · exact ⟨998, rfl, fun g => absurd g.2.1 (by decide), by decide⟩
  · exact ⟨1009, rfl, fun g => absurd g.2.1 (by decide), by decide⟩
theorem badOf {far i : Int} (h0 : 0 ≤ far) (h1 : far < 10 ^ 59) (h : i = 0 ∨ i = 1 ∨ i = 2 ∨ i = 3) : ∃ n : Int, atI [V.int (-1 - far), V.int 13, V.int (13 + far), V.int (-1)] i = some (.int n) ∧ Bad n := by
  rcases h with rfl | rfl | rfl | rfl
  · exact ⟨_, rfl, fun z => by have := z.1; omega, by omega⟩
  · exact ⟨_, rfl, fun z => by have := z.2; omega, by omega⟩
  · exact ⟨_, rfl, fun z => by have := z.2; omega, by omega⟩
  · exact ⟨_, rfl, fun z => by have := z.1; omega, by omega⟩
theorem fours (x : Int) : x % 4 = 0 ∨ x % 4 = 1 ∨ x % 4 = 2 ∨ x % 4 = 3 := by omega
/-- what the list of five comes to -/
def due (kd : Int) (i : Nat) : V := V.bl (decide (V.int (0 + ((i : Nat) : Int)) = V.int kd) || decide (V.int (0 + ((i : Nat) : Int)) = V.int 4))
theorem sc_law : FnScope ["script", "way", "far", "bad", "cell", "field", "told", "e", "kind"] ["script"] (defScope s_law) := ⟨rfl, rfl, rfl, by decide +kernel, rfl, by decide +kernel, by decide +kernel⟩
theorem ok_law {f : Addr} {fd : FuncData} (T : Txt K mg C) (mS : mg "SpinError" = some (.ref S)) (aS : ExcAt K S bmV) (TP : XC K mg S "NoPrime" Cp) (TR : XC K mg S "NoRest" Cr) (TW : XC K mg S "NoRow" Cw) (TO : XC K mg S "NoRoot" Co)
    (kp : Kind K Cp Cr Cw Co Cp true false false false) (kr : Kind K Cp Cr Cw Co Cr false true false false) (kw : Kind K Cp Cr Cw Co Cw false false true false) (ko : Kind K Cp Cr Cw Co Co false false false true)
    (F : Fun K "law" "law" s_law f fd) (D_law_cell_at : DefOk P w K mg base "_law_cell_at" 1 ["script", "k"] (spCell K)) (D_Field : MakeX P w K mg base "Field" C 2 ["self", "prime"] (spInitX C Cp)) (D_law_which : DefM P w K mg base "_law_which" 1 ["e"] (spWhich K Cp Cr Cw Co))
    (D_law_one_rest : DefX P w K mg base "_law_one_rest" 4 ["field", "cell", "bad"] (spOneX C Cr)) (D_law_no_row : DefX P w K mg base "_law_no_row" 6 ["field", "cell"] (spRefX C Cw)) (D_law_no_root : DefX P w K mg base "_law_no_root" 6 ["field", "cell"] (spRefX C Co)) (D_law_row_rest : DefX P w K mg base "_law_row_rest" 6 ["field", "cell", "bad"] (spOneX C Cr)) : FnOk P w K mg base CX0 7 f fd ["script"] (spLaw K) := by
  have nd := sc_law.nd
  refine F.okJ sc_law (fun vs H Q E h => ?_) (fun cdv A outer s H vs Q E hr h => ?_)
  · obtain ⟨a, ns, rfl, _⟩ := h
    rfl
  obtain ⟨a, ns, rfl, hS, h63, q⟩ := h
  obtain ⟨t7, ht7, hread7⟩ : ∃ tt, JSs (cxOf CX0 P w K mg base ["script", "way", "far", "bad", "cell", "field", "told", "e", "kind"] "law" (defScope s_law) f cdv A outer s H E).nox (List.drop 7 (defBody s_law)) tt ∧
      ∀ (wy kd : Int) (o2 o3 o4 o5 : Option V) (lt : Addr) (bs : List Bool) (H1 : Hp), atI (([0, 1, 2, 3, 1] : List Int).map V.int) wy = some (.int kd) → (List.range 5).map (due kd) = bs.map V.bl → SeqAt.shaped (.list (bs.map PyData.bool)) = true → H1 lt = some (.lst (bs.map V.bl)) →
        tt { nx := fun _ H' => Q .non H', rt := Q } [some (.ref a), some (.int wy), o2, o3, o4, o5, some (.ref lt), none, none] H1 := by
    refine ⟨_, jss_cons (js_set (i := 8) nd rfl (Or.inr rfl) (je_ix ix_list (je_lstS (ja_ints (.cons (.cons (.cons (.cons (.cons .nil))))))) (jv 1) (fun _ _ => rfl)))
      (jss_one (js_ret (je_cmpR (op_eqBL hr.units) (jv 6) (je_comp rfl (comp_ok (js := [8]) (fr := ["kind"]) (defScope s_law) ["script", "way", "far", "bad", "cell", "field", "told", "e", "kind"] (by decide +kernel)) (ji_range1 rfl T.range (ja_cons je_int ja_nil)) (fun _ _ _ _ _ => jts_nil) (fun _ _ _ _ _ => je_or (je_cmpR op_eq (jv 0) (jv 1) (nomark _)) (je_one (je_cmpR op_eq (jv 0) je_int (nomark _))))) (nomark _)))), fun wy kd o2 o3 o4 o5 lt bs H1 e0 hb sh hlt => ?_⟩
    refine ⟨(by show 5 ≤ sizeLine; decide), fun l H2 n2 h2 s2 => ?_⟩
    refine ⟨_, rfl, l, _, _, _, rfl, rfl, SqL.of h2, e0, ?_⟩
    refine ⟨_, rfl, 5, rfl, by decide, by decide, comp_mk (n := 5) (due kd) (fun _ H3 => H3 = H2) rfl (small (by decide)) ?_ ?_⟩
    · rintro i H3 hi rfl
      refine ⟨_, rfl, _, rfl, rfl, _, rfl, ?_⟩
      refine ite2 (fun c => ?_) (fun c => ?_)
      · have e : due kd i = V.bl true := by
          unfold due
          rw [c]
          rfl
        refine ⟨?_, rfl⟩
        rw [← e]
        exact mkS
      · refine ⟨_, rfl, rfl, ?_, rfl⟩
        have e : due kd i = V.bl (decide (V.int (0 + ((i : Nat) : Int)) = V.int 4)) := by
          unfold due
          rw [Bool.eq_false_iff.mpr c]
          rfl
        rw [← e]
        exact mkS
    rintro H3 rfl lc H4 n4 h4 s4
    rw [hb] at h4
    exact ⟨lt, lc, bs, rfl, rfl, SqL.of (s4 _ _ (s2 _ _ hlt)), SqL.of h4, sh, q _⟩
  obtain ⟨t6, ht6, hread6⟩ : ∃ tt, JSs (cxOf CX0 P w K mg base ["script", "way", "far", "bad", "cell", "field", "told", "e", "kind"] "law" (defScope s_law) f cdv A outer s H E).nox (List.drop 6 (defBody s_law)) tt ∧
      ∀ (wy bad cell : Int) (o2 o6 : Option V) (pf : Addr) (H1 : Hp), 0 ≤ wy → wy < 5 → Bad bad → FieldAt C H1 pf 13 →
        tt { nx := fun _ H' => Q .non H', rt := Q } [some (.ref a), some (.int wy), o2, some (.int bad), some (.int cell), some (.ref pf), o6, none, none] H1 := by
    refine ⟨_, jss_cons (js_tryE (j := 7) (n := "e") nd rfl rfl (fun xe pins σ E hx =>
      at_if (jt_cmpR op_eq (jv 1) je_int (nomark _)) (at_make hx D_Field (hr.mono (by decide)) rfl (ja_cons (je_ix (ixK K rfl) (je_lstS (ja_cons je_int (ja_cons je_int (ja_cons (je_un un_neg je_int) (ja_cons je_int (ja_cons je_int (ja_cons je_int ja_nil))))))) (je_op op_mod (jv 4) je_int) (fun _ _ => rfl)) ja_nil))
      (at_if (jt_cmpR op_eq (jv 1) je_int (nomark _)) (at_call hx D_law_one_rest (hr.mono (by decide)) rfl (ja_cons (jv 5) (ja_cons (jv 4) (ja_cons (jv 3) ja_nil))))
      (at_if (jt_cmpR op_eq (jv 1) je_int (nomark _)) (at_call hx D_law_no_row (hr.mono (by decide)) rfl (ja_cons (jv 5) (ja_cons (jv 4) ja_nil)))
      (at_if (jt_cmpR op_eq (jv 1) je_int (nomark _)) (at_call hx D_law_no_root (hr.mono (by decide)) rfl (ja_cons (jv 5) (ja_cons (jv 4) ja_nil)))
      (at_call hx D_law_row_rest (hr.mono (by decide)) rfl (ja_cons (jv 5) (ja_cons (jv 4) (ja_cons (jv 3) ja_nil))))))))
      rfl mS aS rfl (fun ea => jss_one (js_set (i := 6) nd rfl (Or.inl rfl) (je_callM D_law_which (hr.mono (by decide)).marked rfl (ja_cons (jv 7) ja_nil)))) rfl rfl) ht7, fun wy bad cell o2 o6 pf H1 w0 w1 hb fa => ?_⟩
    refine ⟨_, rfl, rfl, _, rfl, ?_⟩
    refine ite2 (fun c => ?_) (fun c => ?_)
    · have c : V.int wy = V.int 0 := of_decide_eq_true c
      cases c
      refine ⟨_, rfl, (by show 6 ≤ sizeLine; decide), fun l H2 n2 h2 s2 => ?_⟩
      obtain ⟨n, e0, ng, nn⟩ := noGood (six cell)
      refine ⟨_, rfl, _, _, rfl, rfl, (by show (0 : Int) < 6; decide), l, _, _, _, rfl, rfl, SqL.of h2, e0, fun x dx nx ndx ne => ⟨x, dx, n, rfl, upd_same, smk nn, fun g => absurd g ng, fun _ => ?_⟩⟩
      exact ⟨Cp, _, rfl, TP.lies, (by simp), fun ea hea => ⟨_, rfl, ea, Cp, true, false, false, false, rfl, upd_same, kp, fun lt H3 n3 h3 s3 => hread7 0 0 _ _ _ _ lt [true, false, false, false, true] H3 rfl (by decide) (by decide) h3⟩⟩
    have c0 : wy ≠ 0 := fun z => c (decide_eq_true (congrArg V.int z))
    refine ⟨_, rfl, rfl, _, rfl, ?_⟩
    refine ite2 (fun c => ?_) (fun c => ?_)
    · have c : V.int wy = V.int 1 := of_decide_eq_true c
      cases c
      refine ⟨_, rfl, _, rfl, _, rfl, pf, cell, bad, rfl, fa, hb, fun H' s' => ?_⟩
      exact ⟨Cr, _, rfl, TR.lies, (by simp), fun ea hea => ⟨_, rfl, ea, Cr, false, true, false, false, rfl, upd_same, kr, fun lt H3 n3 h3 s3 => hread7 1 1 _ _ _ _ lt [false, true, false, false, true] H3 rfl (by decide) (by decide) h3⟩⟩
    have c1 : wy ≠ 1 := fun z => c (decide_eq_true (congrArg V.int z))
    refine ⟨_, rfl, rfl, _, rfl, ?_⟩
    refine ite2 (fun c => ?_) (fun c => ?_)
    · have c : V.int wy = V.int 2 := of_decide_eq_true c
      cases c
      refine ⟨_, rfl, _, rfl, pf, cell, rfl, fa, fun H' s' => ?_⟩
      exact ⟨Cw, _, rfl, TW.lies, (by simp), fun ea hea => ⟨_, rfl, ea, Cw, false, false, true, false, rfl, upd_same, kw, fun lt H3 n3 h3 s3 => hread7 2 2 _ _ _ _ lt [false, false, true, false, true] H3 rfl (by decide) (by decide) h3⟩⟩
    have c2 : wy ≠ 2 := fun z => c (decide_eq_true (congrArg V.int z))
    refine ⟨_, rfl, rfl, _, rfl, ?_⟩
    refine ite2 (fun c => ?_) (fun c => ?_)
    · have c : V.int wy = V.int 3 := of_decide_eq_true c
      cases c
      refine ⟨_, rfl, _, rfl, pf, cell, rfl, fa, fun H' s' => ?_⟩
      exact ⟨Co, _, rfl, TO.lies, (by simp), fun ea hea => ⟨_, rfl, ea, Co, false, false, false, true, rfl, upd_same, ko, fun lt H3 n3 h3 s3 => hread7 3 3 _ _ _ _ lt [false, false, false, true, true] H3 rfl (by decide) (by decide) h3⟩⟩
    have c3 : wy ≠ 3 := fun z => c (decide_eq_true (congrArg V.int z))
    have c4 : wy = 4 := by omega
    subst c4
    refine ⟨_, rfl, _, rfl, _, rfl, pf, cell, bad, rfl, fa, hb, fun H' s' => ?_⟩
    exact ⟨Cr, _, rfl, TR.lies, (by simp), fun ea hea => ⟨_, rfl, ea, Cr, false, true, false, false, rfl, upd_same, kr, fun lt H3 n3 h3 s3 => hread7 4 1 _ _ _ _ lt [false, true, false, false, true] H3 rfl (by decide) (by decide) h3⟩⟩
  refine ⟨_, jss_cons (js_set (i := 1) nd rfl (Or.inl rfl) (je_op op_mod (je_callD D_law_cell_at (hr.mono (by decide)) rfl (ja_cons (jv 0) (ja_cons je_int ja_nil))) je_int))
    (jss_cons (js_set (i := 2) nd rfl (Or.inl rfl) (je_op op_mod (je_callD D_law_cell_at (hr.mono (by decide)) rfl (ja_cons (jv 0) (ja_cons je_int ja_nil))) (je_op op_pow je_int je_int)))
    (jss_cons (js_set (i := 3) nd rfl (Or.inl rfl) (je_ix ix_list (je_lstS (ja_cons (je_op op_sub (je_un un_neg je_int) (jv 2)) (ja_cons je_int (ja_cons (je_op op_add je_int (jv 2)) (ja_cons (je_un un_neg je_int) ja_nil))))) (je_op op_mod (je_callD D_law_cell_at (hr.mono (by decide)) rfl (ja_cons (jv 0) (ja_cons je_int ja_nil))) je_int) (fun _ _ => rfl)))
    (jss_cons (js_set (i := 4) nd rfl (Or.inl rfl) (je_callD D_law_cell_at (hr.mono (by decide)) rfl (ja_cons (jv 0) (ja_cons je_int ja_nil))))
    (jss_cons (js_set (i := 5) nd rfl (Or.inl rfl) (je_makeX passN D_Field (hr.mono (by decide)) rfl (ja_cons je_int ja_nil)))
    (jss_cons (js_set (i := 6) nd rfl (Or.inl rfl) (je_lstS ja_nil))
    (ht6)))))), ?_⟩
  refine ⟨_, rfl, a, ns, 0, rfl, hS, Int.le_refl 0, _, _, rfl, rfl, (by show (0 : Int) < 5; decide), ?_⟩
  have y0 : 0 ≤ ns.getD (0 : Int).toNat 0 % 5 := Int.emod_nonneg _ (by decide)
  have y1 : ns.getD (0 : Int).toNat 0 % 5 < 5 := Int.emod_lt_of_pos _ (by decide)
  refine ⟨_, rfl, a, ns, 2, rfl, hS, by decide, _, _, rfl, rfl, ⟨by decide, by decide, by decide⟩, _, _, rfl, rfl, (by show (0 : Int) < 10 ^ 59; decide), ?_⟩
  have f0 : 0 ≤ ns.getD (2 : Int).toNat 0 % (10 : Int) ^ (59 : Int).toNat := Int.emod_nonneg _ (by decide)
  have f1 : ns.getD (2 : Int).toNat 0 % (10 : Int) ^ (59 : Int).toNat < 10 ^ 59 := Int.emod_lt_of_pos _ (by decide)
  refine ⟨_, rfl, _, rfl, _, _, rfl, rfl, _, rfl, _, _, rfl, rfl, _, rfl, (by show 4 ≤ sizeLine; decide), fun l H2 n2 h2 s2 => ?_⟩
  obtain ⟨bad, e0, hB⟩ := badOf f0 f1 (fours (ns.getD (3 : Int).toNat 0))
  refine ⟨_, rfl, a, ns, 3, rfl, s2.seq hS, by decide, _, _, rfl, rfl, (by show (0 : Int) < 4; decide), l, _, _, _, rfl, rfl, SqL.of h2, e0, ?_⟩
  refine ⟨_, rfl, a, ns, 1, rfl, s2.seq hS, by decide, ?_⟩
  refine fun x dx H3 nx hx sx => ⟨x, dx, 13, rfl, hx, smk (by decide), fun _ H4 h4 k4 => ⟨rfl, ?_⟩, fun ng => absurd (good_of pr13 (by decide)) ng⟩
  obtain ⟨fx, s4⟩ := field_of pr13 (by decide) nx sx h4 k4
  refine ⟨(by show 0 ≤ sizeLine; decide), fun l0 H5 n5 h5 s5 => ?_⟩
  exact hread6 _ bad _ _ _ x H5 y0 y1 hB (fx.same s5)
end
end S
namespace S
open PySem L2
/-! ### what the top has written; the head -/
theorem all_mk {l : PySem.W.OpenLaw} {w : World} {K : PySem.W.Frag} {h : Heap} {mg : Str → Option Value} {fa C f1 f2 f3 f4 f5 f6 f7 f8 f9 f10 f11 f12 f13 f14 f15 f16 f17 f18 f19 f20 f21 f22 f23 f24 f25 f26 f27 f28 f29 f30 f31 : Addr} (X : K.In h) (G : h.Ns mainGlobals mg) (hfa : mg "law" = some (.ref fa))
    {od1 an1 od2 an2 od3 an3 od4 an4 od5 an5 od6 an6 od7 an7 od8 an8 od9 an9 od10 an10 od11 an11 od12 an12 od13 an13 od14 an14 od15 an15 od16 an16 od17 an17 od18 an18 od19 an19 od20 an20 od21 an21 od22 an22 od23 an23 od24 an24 od25 an25 od26 an26 od27 an27 od28 an28 od29 an29 od30 an30 od31 an31 : Option Addr} {sl1 sl2 sl3 sl4 sl5 sl6 sl7 sl8 sl9 sl10 sl11 sl12 sl13 sl14 sl15 sl16 sl17 sl18 sl19 sl20 sl21 sl22 sl23 sl24 sl25 sl26 sl27 sl28 sl29 sl30 sl31 : Array (Option Value)} {oc1 kV1 dc1 pm1 cd1 ct1 oc2 kV2 dc2 pm2 cd2 ct2 oc3 kV3 dc3 pm3 cd3 ct3 oc4 kV4 dc4 pm4 cd4 ct4 oc5 kV5 dc5 pm5 cd5 ct5 oc6 kV6 dc6 pm6 cd6 ct6 oc7 kV7 dc7 pm7 cd7 ct7 oc8 kV8 dc8 pm8 cd8 ct8 oc9 kV9 dc9 pm9 cd9 ct9 oc10 kV10 dc10 pm10 cd10 ct10 oc11 kV11 dc11 pm11 cd11 ct11 oc12 kV12 dc12 pm12 cd12 ct12 oc13 kV13 dc13 pm13 cd13 ct13 oc14 kV14 dc14 pm14 cd14 ct14 oc15 kV15 dc15 pm15 cd15 ct15 oc16 kV16 dc16 pm16 cd16 ct16 oc17 kV17 dc17 pm17 cd17 ct17 oc18 kV18 dc18 pm18 cd18 ct18 oc19 kV19 dc19 pm19 cd19 ct19 oc20 kV20 dc20 pm20 cd20 ct20 oc21 kV21 dc21 pm21 cd21 ct21 oc22 kV22 dc22 pm22 cd22 ct22 oc23 kV23 dc23 pm23 cd23 ct23 oc24 kV24 dc24 pm24 cd24 ct24 oc25 kV25 dc25 pm25 cd25 ct25 oc26 kV26 dc26 pm26 cd26 ct26 oc27 kV27 dc27 pm27 cd27 ct27 oc28 kV28 dc28 pm28 cd28 ct28 oc29 kV29 dc29 pm29 cd29 ct29 oc30 kV30 dc30 pm30 cd30 ct30 oc31 kV31 dc31 pm31 cd31 ct31 : Value} {tg0 tg1 : Tok}
    {Cp Cr Cw Co S : Addr} {nmP qP : Str} {NP : Addr} {bsP sbP : List Value} {hdP abP : Bool} {snP : List Str} {coP : Option Bool} {ddP : Option Addr} {kaP kbP kcP kdP keP : Option Value} {niP : String}
    {nmR qR : Str} {NR : Addr} {bsR sbR : List Value} {hdR abR : Bool} {snR : List Str} {coR : Option Bool} {ddR : Option Addr} {kaR kbR kcR kdR keR : Option Value} {niR : String}
    {nmW qW : Str} {NW : Addr} {bsW sbW : List Value} {hdW abW : Bool} {snW : List Str} {coW : Option Bool} {ddW : Option Addr} {kaW kbW kcW kdW keW : Option Value} {niW : String}
    {nmO qO : Str} {NO : Addr} {bsO sbO : List Value} {hdO abO : Bool} {snO : List Str} {coO : Option Bool} {ddO : Option Addr} {kaO kbO kcO kdO keO : Option Value} {niO : String}
    {nmS qS : Str} {NS : Addr} {bsS sbS : List Value} {hdS abS : Bool} {snS : List Str} {coS : Option Bool} {ddS : Option Addr} {kaS kbS kcS kdS keS : Option Value} {niS : String}
    (aC : PySem.W.nsIn K mainGlobals "Field" = some (some (.ref C)))
    (a1 : PySem.W.nsIn K mainGlobals "is_prime" = some (some (.ref f1)))
    (l1 : K.lookup f1 = some ⟨oc1, od1, .func (PySem.W.fnOf "is_prime" "is_prime" (defArgs s_is_prime) (defBody s_is_prime) (defScope s_is_prime) .none kV1 dc1 pm1 an1 cd1 ct1), sl1⟩) (c1 : PySem.W.codeIn K cd1 "is_prime" = true) (k1 : PySem.W.keepIn K (.ref f1) = true)
    (a2 : PySem.W.nsIn K mainGlobals "ask_rest" = some (some (.ref f2)))
    (l2 : K.lookup f2 = some ⟨oc2, od2, .func (PySem.W.fnOf "ask_rest" "ask_rest" (defArgs s_ask_rest) (defBody s_ask_rest) (defScope s_ask_rest) .none kV2 dc2 pm2 an2 cd2 ct2), sl2⟩) (c2 : PySem.W.codeIn K cd2 "ask_rest" = true) (k2 : PySem.W.keepIn K (.ref f2) = true)
    (a3 : PySem.W.nsIn K mainGlobals "ask_rest_above_nought" = some (some (.ref f3)))
    (l3 : K.lookup f3 = some ⟨oc3, od3, .func (PySem.W.fnOf "ask_rest_above_nought" "ask_rest_above_nought" (defArgs s_ask_rest_above_nought) (defBody s_ask_rest_above_nought) (defScope s_ask_rest_above_nought) .none kV3 dc3 pm3 an3 cd3 ct3), sl3⟩) (c3 : PySem.W.codeIn K cd3 "ask_rest_above_nought" = true) (k3 : PySem.W.keepIn K (.ref f3) = true)
    (a4 : PySem.W.findIn K (.ref C) "__init__" = some (some (.ref f4))) (i4 : PySem.W.isFn K (.ref f4) = true)
    (l4 : K.lookup f4 = some ⟨oc4, od4, .func (PySem.W.fnOf "__init__" "Field.__init__" (defArgs s_Field___init__) (defBody s_Field___init__) (defScope s_Field___init__) .none kV4 dc4 pm4 an4 cd4 ct4), sl4⟩) (c4 : PySem.W.codeIn K cd4 "Field.__init__" = true) (k4 : PySem.W.keepIn K (.ref f4) = true)
    (a5 : PySem.W.findIn K (.ref C) "plus" = some (some (.ref f5))) (i5 : PySem.W.isFn K (.ref f5) = true)
    (l5 : K.lookup f5 = some ⟨oc5, od5, .func (PySem.W.fnOf "plus" "Field.plus" (defArgs s_Field_plus) (defBody s_Field_plus) (defScope s_Field_plus) .none kV5 dc5 pm5 an5 cd5 ct5), sl5⟩) (c5 : PySem.W.codeIn K cd5 "Field.plus" = true) (k5 : PySem.W.keepIn K (.ref f5) = true)
    (a6 : PySem.W.findIn K (.ref C) "times" = some (some (.ref f6))) (i6 : PySem.W.isFn K (.ref f6) = true)
    (l6 : K.lookup f6 = some ⟨oc6, od6, .func (PySem.W.fnOf "times" "Field.times" (defArgs s_Field_times) (defBody s_Field_times) (defScope s_Field_times) .none kV6 dc6 pm6 an6 cd6 ct6), sl6⟩) (c6 : PySem.W.codeIn K cd6 "Field.times" = true) (k6 : PySem.W.keepIn K (.ref f6) = true)
    (a7 : PySem.W.findIn K (.ref C) "power" = some (some (.ref f7))) (i7 : PySem.W.isFn K (.ref f7) = true)
    (l7 : K.lookup f7 = some ⟨oc7, od7, .func (PySem.W.fnOf "power" "Field.power" (defArgs s_Field_power) (defBody s_Field_power) (defScope s_Field_power) .none kV7 dc7 pm7 an7 cd7 ct7), sl7⟩) (c7 : PySem.W.codeIn K cd7 "Field.power" = true) (k7 : PySem.W.keepIn K (.ref f7) = true)
    (a8 : PySem.W.findIn K (.ref C) "inverse" = some (some (.ref f8))) (i8 : PySem.W.isFn K (.ref f8) = true)
    (l8 : K.lookup f8 = some ⟨oc8, od8, .func (PySem.W.fnOf "inverse" "Field.inverse" (defArgs s_Field_inverse) (defBody s_Field_inverse) (defScope s_Field_inverse) .none kV8 dc8 pm8 an8 cd8 ct8), sl8⟩) (c8 : PySem.W.codeIn K cd8 "Field.inverse" = true) (k8 : PySem.W.keepIn K (.ref f8) = true)
    (a9 : PySem.W.findIn K (.ref C) "order" = some (some (.ref f9))) (i9 : PySem.W.isFn K (.ref f9) = true)
    (l9 : K.lookup f9 = some ⟨oc9, od9, .func (PySem.W.fnOf "order" "Field.order" (defArgs s_Field_order) (defBody s_Field_order) (defScope s_Field_order) .none kV9 dc9 pm9 an9 cd9 ct9), sl9⟩) (c9 : PySem.W.codeIn K cd9 "Field.order" = true) (k9 : PySem.W.keepIn K (.ref f9) = true)
    (a10 : PySem.W.nsIn K mainGlobals "ask_rests" = some (some (.ref f10)))
    (l10 : K.lookup f10 = some ⟨oc10, od10, .func (PySem.W.fnOf "ask_rests" "ask_rests" (defArgs s_ask_rests) (defBody s_ask_rests) (defScope s_ask_rests) .none kV10 dc10 pm10 an10 cd10 ct10), sl10⟩) (c10 : PySem.W.codeIn K cd10 "ask_rests" = true) (k10 : PySem.W.keepIn K (.ref f10) = true)
    (a11 : PySem.W.nsIn K mainGlobals "ask_some" = some (some (.ref f11)))
    (l11 : K.lookup f11 = some ⟨oc11, od11, .func (PySem.W.fnOf "ask_some" "ask_some" (defArgs s_ask_some) (defBody s_ask_some) (defScope s_ask_some) .none kV11 dc11 pm11 an11 cd11 ct11), sl11⟩) (c11 : PySem.W.codeIn K cd11 "ask_some" = true) (k11 : PySem.W.keepIn K (.ref f11) = true)
    (a12 : PySem.W.nsIn K mainGlobals "ask_figures" = some (some (.ref f12)))
    (l12 : K.lookup f12 = some ⟨oc12, od12, .func (PySem.W.fnOf "ask_figures" "ask_figures" (defArgs s_ask_figures) (defBody s_ask_figures) (defScope s_ask_figures) .none kV12 dc12 pm12 an12 cd12 ct12), sl12⟩) (c12 : PySem.W.codeIn K cd12 "ask_figures" = true) (k12 : PySem.W.keepIn K (.ref f12) = true)
    (a13 : PySem.W.nsIn K mainGlobals "ask_turn" = some (some (.ref f13)))
    (l13 : K.lookup f13 = some ⟨oc13, od13, .func (PySem.W.fnOf "ask_turn" "ask_turn" (defArgs s_ask_turn) (defBody s_ask_turn) (defScope s_ask_turn) .none kV13 dc13 pm13 an13 cd13 ct13), sl13⟩) (c13 : PySem.W.codeIn K cd13 "ask_turn" = true) (k13 : PySem.W.keepIn K (.ref f13) = true)
    (a14 : PySem.W.nsIn K mainGlobals "turned" = some (some (.ref f14)))
    (l14 : K.lookup f14 = some ⟨oc14, od14, .func (PySem.W.fnOf "turned" "turned" (defArgs s_turned) (defBody s_turned) (defScope s_turned) .none kV14 dc14 pm14 an14 cd14 ct14), sl14⟩) (c14 : PySem.W.codeIn K cd14 "turned" = true) (k14 : PySem.W.keepIn K (.ref f14) = true)
    (a15 : PySem.W.nsIn K mainGlobals "turned_back" = some (some (.ref f15)))
    (l15 : K.lookup f15 = some ⟨oc15, od15, .func (PySem.W.fnOf "turned_back" "turned_back" (defArgs s_turned_back) (defBody s_turned_back) (defScope s_turned_back) .none kV15 dc15 pm15 an15 cd15 ct15), sl15⟩) (c15 : PySem.W.codeIn K cd15 "turned_back" = true) (k15 : PySem.W.keepIn K (.ref f15) = true)
    (a16 : PySem.W.nsIn K mainGlobals "worth_at" = some (some (.ref f16)))
    (l16 : K.lookup f16 = some ⟨oc16, od16, .func (PySem.W.fnOf "worth_at" "worth_at" (defArgs s_worth_at) (defBody s_worth_at) (defScope s_worth_at) .none kV16 dc16 pm16 an16 cd16 ct16), sl16⟩) (c16 : PySem.W.codeIn K cd16 "worth_at" = true) (k16 : PySem.W.keepIn K (.ref f16) = true)
    (a17 : PySem.W.nsIn K mainGlobals "ask_both" = some (some (.ref f17)))
    (l17 : K.lookup f17 = some ⟨oc17, od17, .func (PySem.W.fnOf "ask_both" "ask_both" (defArgs s_ask_both) (defBody s_ask_both) (defScope s_ask_both) .none kV17 dc17 pm17 an17 cd17 ct17), sl17⟩) (c17 : PySem.W.codeIn K cd17 "ask_both" = true) (k17 : PySem.W.keepIn K (.ref f17) = true)
    (a18 : PySem.W.nsIn K mainGlobals "ring_product" = some (some (.ref f18)))
    (l18 : K.lookup f18 = some ⟨oc18, od18, .func (PySem.W.fnOf "ring_product" "ring_product" (defArgs s_ring_product) (defBody s_ring_product) (defScope s_ring_product) .none kV18 dc18 pm18 an18 cd18 ct18), sl18⟩) (c18 : PySem.W.codeIn K cd18 "ring_product" = true) (k18 : PySem.W.keepIn K (.ref f18) = true)
    (a19 : PySem.W.nsIn K mainGlobals "plain_product" = some (some (.ref f19)))
    (l19 : K.lookup f19 = some ⟨oc19, od19, .func (PySem.W.fnOf "plain_product" "plain_product" (defArgs s_plain_product) (defBody s_plain_product) (defScope s_plain_product) .none kV19 dc19 pm19 an19 cd19 ct19), sl19⟩) (c19 : PySem.W.codeIn K cd19 "plain_product" = true) (k19 : PySem.W.keepIn K (.ref f19) = true)
    (a20 : PySem.W.nsIn K mainGlobals "long_product" = some (some (.ref f20)))
    (l20 : K.lookup f20 = some ⟨oc20, od20, .func (PySem.W.fnOf "long_product" "long_product" (defArgs s_long_product) (defBody s_long_product) (defScope s_long_product) .none kV20 dc20 pm20 an20 cd20 ct20), sl20⟩) (c20 : PySem.W.codeIn K cd20 "long_product" = true) (k20 : PySem.W.keepIn K (.ref f20) = true)
    (a21 : PySem.W.nsIn K mainGlobals "ask_points" = some (some (.ref f21)))
    (l21 : K.lookup f21 = some ⟨oc21, od21, .func (PySem.W.fnOf "ask_points" "ask_points" (defArgs s_ask_points) (defBody s_ask_points) (defScope s_ask_points) .none kV21 dc21 pm21 an21 cd21 ct21), sl21⟩) (c21 : PySem.W.codeIn K cd21 "ask_points" = true) (k21 : PySem.W.keepIn K (.ref f21) = true)
    (a22 : PySem.W.nsIn K mainGlobals "row_through" = some (some (.ref f22)))
    (l22 : K.lookup f22 = some ⟨oc22, od22, .func (PySem.W.fnOf "row_through" "row_through" (defArgs s_row_through) (defBody s_row_through) (defScope s_row_through) .none kV22 dc22 pm22 an22 cd22 ct22), sl22⟩) (c22 : PySem.W.codeIn K cd22 "row_through" = true) (k22 : PySem.W.keepIn K (.ref f22) = true)
    (a23 : PySem.W.nsIn K mainGlobals "_law_cell_at" = some (some (.ref f23)))
    (l23 : K.lookup f23 = some ⟨oc23, od23, .func (PySem.W.fnOf "_law_cell_at" "_law_cell_at" (defArgs s_law_cell_at) (defBody s_law_cell_at) (defScope s_law_cell_at) .none kV23 dc23 pm23 an23 cd23 ct23), sl23⟩) (c23 : PySem.W.codeIn K cd23 "_law_cell_at" = true) (k23 : PySem.W.keepIn K (.ref f23) = true)
    (a24 : PySem.W.nsIn K mainGlobals "_law_which" = some (some (.ref f24)))
    (l24 : K.lookup f24 = some ⟨oc24, od24, .func (PySem.W.fnOf "_law_which" "_law_which" (defArgs s_law_which) (defBody s_law_which) (defScope s_law_which) .none kV24 dc24 pm24 an24 cd24 ct24), sl24⟩) (c24 : PySem.W.codeIn K cd24 "_law_which" = true) (k24 : PySem.W.keepIn K (.ref f24) = true)
    (a25 : PySem.W.nsIn K mainGlobals "_law_one_rest" = some (some (.ref f25)))
    (l25 : K.lookup f25 = some ⟨oc25, od25, .func (PySem.W.fnOf "_law_one_rest" "_law_one_rest" (defArgs s_law_one_rest) (defBody s_law_one_rest) (defScope s_law_one_rest) .none kV25 dc25 pm25 an25 cd25 ct25), sl25⟩) (c25 : PySem.W.codeIn K cd25 "_law_one_rest" = true) (k25 : PySem.W.keepIn K (.ref f25) = true)
    (a26 : PySem.W.nsIn K mainGlobals "_law_two" = some (some (.ref f26)))
    (l26 : K.lookup f26 = some ⟨oc26, od26, .func (PySem.W.fnOf "_law_two" "_law_two" (defArgs s_law_two) (defBody s_law_two) (defScope s_law_two) .none kV26 dc26 pm26 an26 cd26 ct26), sl26⟩) (c26 : PySem.W.codeIn K cd26 "_law_two" = true) (k26 : PySem.W.keepIn K (.ref f26) = true)
    (a27 : PySem.W.nsIn K mainGlobals "_law_row_rest" = some (some (.ref f27)))
    (l27 : K.lookup f27 = some ⟨oc27, od27, .func (PySem.W.fnOf "_law_row_rest" "_law_row_rest" (defArgs s_law_row_rest) (defBody s_law_row_rest) (defScope s_law_row_rest) .none kV27 dc27 pm27 an27 cd27 ct27), sl27⟩) (c27 : PySem.W.codeIn K cd27 "_law_row_rest" = true) (k27 : PySem.W.keepIn K (.ref f27) = true)
    (a28 : PySem.W.nsIn K mainGlobals "_law_no_row" = some (some (.ref f28)))
    (l28 : K.lookup f28 = some ⟨oc28, od28, .func (PySem.W.fnOf "_law_no_row" "_law_no_row" (defArgs s_law_no_row) (defBody s_law_no_row) (defScope s_law_no_row) .none kV28 dc28 pm28 an28 cd28 ct28), sl28⟩) (c28 : PySem.W.codeIn K cd28 "_law_no_row" = true) (k28 : PySem.W.keepIn K (.ref f28) = true)
    (a29 : PySem.W.nsIn K mainGlobals "_law_order" = some (some (.ref f29)))
    (l29 : K.lookup f29 = some ⟨oc29, od29, .func (PySem.W.fnOf "_law_order" "_law_order" (defArgs s_law_order) (defBody s_law_order) (defScope s_law_order) .none kV29 dc29 pm29 an29 cd29 ct29), sl29⟩) (c29 : PySem.W.codeIn K cd29 "_law_order" = true) (k29 : PySem.W.keepIn K (.ref f29) = true)
    (a30 : PySem.W.nsIn K mainGlobals "_law_no_root" = some (some (.ref f30)))
    (l30 : K.lookup f30 = some ⟨oc30, od30, .func (PySem.W.fnOf "_law_no_root" "_law_no_root" (defArgs s_law_no_root) (defBody s_law_no_root) (defScope s_law_no_root) .none kV30 dc30 pm30 an30 cd30 ct30), sl30⟩) (c30 : PySem.W.codeIn K cd30 "_law_no_root" = true) (k30 : PySem.W.keepIn K (.ref f30) = true)
    (a31 : PySem.W.nsIn K mainGlobals "law" = some (some (.ref f31)))
    (l31 : K.lookup f31 = some ⟨oc31, od31, .func (PySem.W.fnOf "law" "law" (defArgs s_law) (defBody s_law) (defScope s_law) .none kV31 dc31 pm31 an31 cd31 ct31), sl31⟩) (c31 : PySem.W.codeIn K cd31 "law" = true) (k31 : PySem.W.keepIn K (.ref f31) = true)
    (pg : PySem.W.plainGet K C Str.empty = true) (hd : PySem.W.hasDictIn K C = true) (po : PySem.W.plainOver K C = true) (sa : PySem.W.findIn K (.ref C) "__setattr__" = some (some (.builtin "object.__setattr__"))) (mk : PySem.W.makesIn K C = true) (kc : PySem.W.keepIn K (.ref C) = true)
    (xsS : PySem.W.nsIn K mainGlobals "SpinError" = some (some (.ref S)))
    (xlS : K.lookup S = some (excClassObj nmS qS S NS bsS bmV hdS snS sbS abS coS ddS kaS kbS kcS kdS keS niS))
    (xve : PySem.W.nsIn K mainGlobals "ValueError" = some none)
    (x4 : PySem.W.specialIn K (.builtin "object.__class__") "__get__" = some (some (.builtin "getset_descriptor.__get__")))
    (x5 : PySem.W.takesIn K (.builtin "object.__class__") = some true)
    (xsP : PySem.W.nsIn K mainGlobals "NoPrime" = some (some (.ref Cp)))
    (xsR : PySem.W.nsIn K mainGlobals "NoRest" = some (some (.ref Cr)))
    (xsW : PySem.W.nsIn K mainGlobals "NoRow" = some (some (.ref Cw)))
    (xsO : PySem.W.nsIn K mainGlobals "NoRoot" = some (some (.ref Co)))
    (xeP : PySem.W.excIn K Cp bmV "ValueError.__new__" = true)
    (xlP : K.lookup Cp = some (excClassObj nmP qP Cp NP bsP (.ref S :: bmV) hdP snP sbP abP coP ddP kaP kbP kcP kdP keP niP))
    (xaP : PySem.W.findIn K (.ref Cp) "__getattribute__" = some (some (.builtin "BaseException.__getattribute__")))
    (xbP : PySem.W.findIn K (.ref Cp) "__getattr__" = some none)
    (xcP : PySem.W.findIn K (.ref Cp) "__class__" = some (some (.builtin "object.__class__")))
    (xoP : PySem.W.mroIn K Cp (.type "object") = some true)
    (xvP : PySem.W.kitOne K (.ref Cp) (.type "ValueError") = some true)
    (yPP : PySem.W.kitOne K (.ref Cp) (.ref Cp) = some true)
    (yPR : PySem.W.kitOne K (.ref Cp) (.ref Cr) = some false)
    (yPW : PySem.W.kitOne K (.ref Cp) (.ref Cw) = some false)
    (yPO : PySem.W.kitOne K (.ref Cp) (.ref Co) = some false)
    (xeR : PySem.W.excIn K Cr bmV "ValueError.__new__" = true)
    (xlR : K.lookup Cr = some (excClassObj nmR qR Cr NR bsR (.ref S :: bmV) hdR snR sbR abR coR ddR kaR kbR kcR kdR keR niR))
    (xaR : PySem.W.findIn K (.ref Cr) "__getattribute__" = some (some (.builtin "BaseException.__getattribute__")))
    (xbR : PySem.W.findIn K (.ref Cr) "__getattr__" = some none)
    (xcR : PySem.W.findIn K (.ref Cr) "__class__" = some (some (.builtin "object.__class__")))
    (xoR : PySem.W.mroIn K Cr (.type "object") = some true)
    (xvR : PySem.W.kitOne K (.ref Cr) (.type "ValueError") = some true)
    (yRP : PySem.W.kitOne K (.ref Cr) (.ref Cp) = some false)
    (yRR : PySem.W.kitOne K (.ref Cr) (.ref Cr) = some true)
    (yRW : PySem.W.kitOne K (.ref Cr) (.ref Cw) = some false)
    (yRO : PySem.W.kitOne K (.ref Cr) (.ref Co) = some false)
    (xeW : PySem.W.excIn K Cw bmV "ValueError.__new__" = true)
    (xlW : K.lookup Cw = some (excClassObj nmW qW Cw NW bsW (.ref S :: bmV) hdW snW sbW abW coW ddW kaW kbW kcW kdW keW niW))
    (xaW : PySem.W.findIn K (.ref Cw) "__getattribute__" = some (some (.builtin "BaseException.__getattribute__")))
    (xbW : PySem.W.findIn K (.ref Cw) "__getattr__" = some none)
    (xcW : PySem.W.findIn K (.ref Cw) "__class__" = some (some (.builtin "object.__class__")))
    (xoW : PySem.W.mroIn K Cw (.type "object") = some true)
    (xvW : PySem.W.kitOne K (.ref Cw) (.type "ValueError") = some true)
    (yWP : PySem.W.kitOne K (.ref Cw) (.ref Cp) = some false)
    (yWR : PySem.W.kitOne K (.ref Cw) (.ref Cr) = some false)
    (yWW : PySem.W.kitOne K (.ref Cw) (.ref Cw) = some true)
    (yWO : PySem.W.kitOne K (.ref Cw) (.ref Co) = some false)
    (xeO : PySem.W.excIn K Co bmV "ValueError.__new__" = true)
    (xlO : K.lookup Co = some (excClassObj nmO qO Co NO bsO (.ref S :: bmV) hdO snO sbO abO coO ddO kaO kbO kcO kdO keO niO))
    (xaO : PySem.W.findIn K (.ref Co) "__getattribute__" = some (some (.builtin "BaseException.__getattribute__")))
    (xbO : PySem.W.findIn K (.ref Co) "__getattr__" = some none)
    (xcO : PySem.W.findIn K (.ref Co) "__class__" = some (some (.builtin "object.__class__")))
    (xoO : PySem.W.mroIn K Co (.type "object") = some true)
    (xvO : PySem.W.kitOne K (.ref Co) (.type "ValueError") = some true)
    (yOP : PySem.W.kitOne K (.ref Co) (.ref Cp) = some false)
    (yOR : PySem.W.kitOne K (.ref Co) (.ref Cr) = some false)
    (yOW : PySem.W.kitOne K (.ref Co) (.ref Cw) = some false)
    (yOO : PySem.W.kitOne K (.ref Co) (.ref Co) = some true)
    (nA0 : PySem.W.findIn K (.ref C) "prime" = some none)
    (z0 : PySem.W.nsIn K mainGlobals "len" = some none)
    (z1 : PySem.W.nsIn K mainGlobals "range" = some none)
    (z2 : PySem.W.nsIn K mainGlobals "isinstance" = some none)
    (z3 : PySem.W.nsIn K mainGlobals "int" = some none)
    (z4 : PySem.W.nsIn K mainGlobals "bool" = some none)
    (z5 : PySem.W.nsIn K mainGlobals "list" = some none)
    (z6 : PySem.W.nsIn K mainGlobals "sorted" = some none)
    (z7 : PySem.W.nsIn K mainGlobals "set" = some none)
    (z8 : PySem.W.nsIn K mainGlobals "reversed" = some none)
    (z9 : PySem.W.nsIn K mainGlobals "sum" = some none)
    (z10 : PySem.W.nsIn K mainGlobals "max" = some none)
    (z11 : PySem.W.nsIn K mainGlobals "min" = some none)
    (z12 : PySem.W.nsIn K mainGlobals "zip" = some none)
    (z13 : PySem.W.nsIn K mainGlobals "abs" = some none)
    (gl0 : PySem.W.nsIn K mainGlobals "GREATEST_PRIME" = some (some (.int 997 tg0)))
    (gl1 : PySem.W.nsIn K mainGlobals "MOST_POINTS" = some (some (.int 32 tg1)))
    : ∃ fd : FuncData, (∀ (s : Shared) (v : Value), BindsTo s fd ⟨[v], []⟩ [("script", v)]) ∧ ∀ base : Heap, K.In base → base.Ns mainGlobals mg → FnOk l.prog w K mg base CX0 7 fa fd ["script"] (spLaw K) := by
  have e := hfa.symm.trans (PySem.W.mg_of X G a31)
  cases e
  have T : Txt K mg C := ⟨⟨pg, hd, po, sa⟩, nA0, PySem.W.mg_none_of X G z0, PySem.W.mg_none_of X G z1, PySem.W.mg_none_of X G z2, PySem.W.mg_none_of X G z3, PySem.W.mg_none_of X G z4, PySem.W.mg_none_of X G z5, PySem.W.mg_none_of X G z6, PySem.W.mg_none_of X G z7, PySem.W.mg_none_of X G z8, PySem.W.mg_none_of X G z9, PySem.W.mg_none_of X G z10, PySem.W.mg_none_of X G z11, PySem.W.mg_none_of X G z12, PySem.W.mg_none_of X G z13, ⟨tg0, PySem.W.mg_of X G gl0⟩, ⟨tg1, PySem.W.mg_of X G gl1⟩⟩
  have ve := PySem.W.mg_none_of X G xve
  have mS := PySem.W.mg_of X G xsS
  have aS : ExcAt K S bmV := ⟨_, _, _, _, _, _, _, _, _, _, _, _, _, _, _, _, xlS⟩
  have TP : XC K mg S "NoPrime" Cp := ⟨xsP, xeP, PySem.W.mg_of X G xsP, ⟨_, _, _, _, _, _, _, _, _, _, _, _, _, _, _, _, xlP⟩, ⟨xaP, xbP, xcP, x4, x5, xoP, _, ⟨_, _, _, _, _, _, _, _, _, _, _, _, _, _, _, _, xlP⟩, by rfl⟩, xvP⟩
  have TR : XC K mg S "NoRest" Cr := ⟨xsR, xeR, PySem.W.mg_of X G xsR, ⟨_, _, _, _, _, _, _, _, _, _, _, _, _, _, _, _, xlR⟩, ⟨xaR, xbR, xcR, x4, x5, xoR, _, ⟨_, _, _, _, _, _, _, _, _, _, _, _, _, _, _, _, xlR⟩, by rfl⟩, xvR⟩
  have TW : XC K mg S "NoRow" Cw := ⟨xsW, xeW, PySem.W.mg_of X G xsW, ⟨_, _, _, _, _, _, _, _, _, _, _, _, _, _, _, _, xlW⟩, ⟨xaW, xbW, xcW, x4, x5, xoW, _, ⟨_, _, _, _, _, _, _, _, _, _, _, _, _, _, _, _, xlW⟩, by rfl⟩, xvW⟩
  have TO : XC K mg S "NoRoot" Co := ⟨xsO, xeO, PySem.W.mg_of X G xsO, ⟨_, _, _, _, _, _, _, _, _, _, _, _, _, _, _, _, xlO⟩, ⟨xaO, xbO, xcO, x4, x5, xoO, _, ⟨_, _, _, _, _, _, _, _, _, _, _, _, _, _, _, _, xlO⟩, by rfl⟩, xvO⟩
  have kp : Kind K Cp Cr Cw Co Cp true false false false := ⟨TP.xc, yPP, yPR, yPW, yPO, TP.kv⟩
  have kr : Kind K Cp Cr Cw Co Cr false true false false := ⟨TR.xc, yRP, yRR, yRW, yRO, TR.kv⟩
  have kw : Kind K Cp Cr Cw Co Cw false false true false := ⟨TW.xc, yWP, yWR, yWW, yWO, TW.kv⟩
  have ko : Kind K Cp Cr Cw Co Co false false false true := ⟨TO.xc, yOP, yOR, yOW, yOO, TO.kv⟩
  have F1 := fun_mk (st := s_is_prime) l1 c1 k1
  have b1 := F1.binds (ps := ["number"]) fun _ _ _ _ _ _ us hl => match us, hl with | [_], _ => rfl
  have F2 := fun_mk (st := s_ask_rest) l2 c2 k2
  have b2 := F2.binds (ps := ["prime", "number"]) fun _ _ _ _ _ _ us hl => match us, hl with | [_, _], _ => rfl
  have F3 := fun_mk (st := s_ask_rest_above_nought) l3 c3 k3
  have b3 := F3.binds (ps := ["prime", "number"]) fun _ _ _ _ _ _ us hl => match us, hl with | [_, _], _ => rfl
  have F4 := fun_mk (st := s_Field___init__) l4 c4 k4
  have b4 := F4.binds (ps := ["self", "prime"]) fun _ _ _ _ _ _ us hl => match us, hl with | [_, _], _ => rfl
  have F5 := fun_mk (st := s_Field_plus) l5 c5 k5
  have b5 := F5.binds (ps := ["self", "one", "other"]) fun _ _ _ _ _ _ us hl => match us, hl with | [_, _, _], _ => rfl
  have F6 := fun_mk (st := s_Field_times) l6 c6 k6
  have b6 := F6.binds (ps := ["self", "one", "other"]) fun _ _ _ _ _ _ us hl => match us, hl with | [_, _, _], _ => rfl
  have F7 := fun_mk (st := s_Field_power) l7 c7 k7
  have b7 := F7.binds (ps := ["self", "one", "often"]) fun _ _ _ _ _ _ us hl => match us, hl with | [_, _, _], _ => rfl
  have F8 := fun_mk (st := s_Field_inverse) l8 c8 k8
  have b8 := F8.binds (ps := ["self", "one"]) fun _ _ _ _ _ _ us hl => match us, hl with | [_, _], _ => rfl
  have F9 := fun_mk (st := s_Field_order) l9 c9 k9
  have b9 := F9.binds (ps := ["self", "one"]) fun _ _ _ _ _ _ us hl => match us, hl with | [_, _], _ => rfl
  have F10 := fun_mk (st := s_ask_rests) l10 c10 k10
  have b10 := F10.binds (ps := ["prime", "row"]) fun _ _ _ _ _ _ us hl => match us, hl with | [_, _], _ => rfl
  have F11 := fun_mk (st := s_ask_some) l11 c11 k11
  have b11 := F11.binds (ps := ["row"]) fun _ _ _ _ _ _ us hl => match us, hl with | [_], _ => rfl
  have F12 := fun_mk (st := s_ask_figures) l12 c12 k12
  have b12 := F12.binds (ps := ["row"]) fun _ _ _ _ _ _ us hl => match us, hl with | [_], _ => rfl
  have F13 := fun_mk (st := s_ask_turn) l13 c13 k13
  have b13 := F13.binds (ps := ["field", "root", "row"]) fun _ _ _ _ _ _ us hl => match us, hl with | [_, _, _], _ => rfl
  have F14 := fun_mk (st := s_turned) l14 c14 k14
  have b14 := F14.binds (ps := ["field", "root", "row"]) fun _ _ _ _ _ _ us hl => match us, hl with | [_, _, _], _ => rfl
  have F15 := fun_mk (st := s_turned_back) l15 c15 k15
  have b15 := F15.binds (ps := ["field", "root", "row"]) fun _ _ _ _ _ _ us hl => match us, hl with | [_, _, _], _ => rfl
  have F16 := fun_mk (st := s_worth_at) l16 c16 k16
  have b16 := F16.binds (ps := ["field", "row", "one"]) fun _ _ _ _ _ _ us hl => match us, hl with | [_, _, _], _ => rfl
  have F17 := fun_mk (st := s_ask_both) l17 c17 k17
  have b17 := F17.binds (ps := ["prime", "one", "other"]) fun _ _ _ _ _ _ us hl => match us, hl with | [_, _, _], _ => rfl
  have F18 := fun_mk (st := s_ring_product) l18 c18 k18
  have b18 := F18.binds (ps := ["field", "one", "other"]) fun _ _ _ _ _ _ us hl => match us, hl with | [_, _, _], _ => rfl
  have F19 := fun_mk (st := s_plain_product) l19 c19 k19
  have b19 := F19.binds (ps := ["field", "one", "other"]) fun _ _ _ _ _ _ us hl => match us, hl with | [_, _, _], _ => rfl
  have F20 := fun_mk (st := s_long_product) l20 c20 k20
  have b20 := F20.binds (ps := ["one", "other"]) fun _ _ _ _ _ _ us hl => match us, hl with | [_, _], _ => rfl
  have F21 := fun_mk (st := s_ask_points) l21 c21 k21
  have b21 := F21.binds (ps := ["prime", "points"]) fun _ _ _ _ _ _ us hl => match us, hl with | [_, _], _ => rfl
  have F22 := fun_mk (st := s_row_through) l22 c22 k22
  have b22 := F22.binds (ps := ["field", "points"]) fun _ _ _ _ _ _ us hl => match us, hl with | [_, _], _ => rfl
  have F23 := fun_mk (st := s_law_cell_at) l23 c23 k23
  have b23 := F23.binds (ps := ["script", "k"]) fun _ _ _ _ _ _ us hl => match us, hl with | [_, _], _ => rfl
  have F24 := fun_mk (st := s_law_which) l24 c24 k24
  have b24 := F24.binds (ps := ["e"]) fun _ _ _ _ _ _ us hl => match us, hl with | [_], _ => rfl
  have F25 := fun_mk (st := s_law_one_rest) l25 c25 k25
  have b25 := F25.binds (ps := ["field", "cell", "bad"]) fun _ _ _ _ _ _ us hl => match us, hl with | [_, _, _], _ => rfl
  have F26 := fun_mk (st := s_law_two) l26 c26 k26
  have b26 := F26.binds (ps := ["way", "field", "one", "other", "turn"]) fun _ _ _ _ _ _ us hl => match us, hl with | [_, _, _, _, _], _ => rfl
  have F27 := fun_mk (st := s_law_row_rest) l27 c27 k27
  have b27 := F27.binds (ps := ["field", "cell", "bad"]) fun _ _ _ _ _ _ us hl => match us, hl with | [_, _, _], _ => rfl
  have F28 := fun_mk (st := s_law_no_row) l28 c28 k28
  have b28 := F28.binds (ps := ["field", "cell"]) fun _ _ _ _ _ _ us hl => match us, hl with | [_, _], _ => rfl
  have F29 := fun_mk (st := s_law_order) l29 c29 k29
  have b29 := F29.binds (ps := ["one"]) fun _ _ _ _ _ _ us hl => match us, hl with | [_], _ => rfl
  have F30 := fun_mk (st := s_law_no_root) l30 c30 k30
  have b30 := F30.binds (ps := ["field", "cell"]) fun _ _ _ _ _ _ us hl => match us, hl with | [_, _], _ => rfl
  have F31 := fun_mk (st := s_law) l31 c31 k31
  refine ⟨PySem.W.fnOf "law" "law" (defArgs s_law) (defBody s_law) (defScope s_law) .none kV31 dc31 pm31 an31 cd31 ct31, fun s v => .of_eq rfl, fun base _ _ => ?_⟩
  have D_is_prime : DefOk l.prog w K mg base "is_prime" 1 ["number"] spIsPrimeG := ⟨⟨f1, _, ok_is_prime F1, PySem.W.mg_of X G a1, k1, b1⟩⟩
  have D_ask_rest : DefX l.prog w K mg base "ask_rest" 1 ["prime", "number"] (spAskX Cr) := ⟨⟨f2, _, ok_ask_rest TR F2, PySem.W.mg_of X G a2, k2, b2⟩⟩
  have D_ask_rest_above_nought : DefX l.prog w K mg base "ask_rest_above_nought" 2 ["prime", "number"] (spAskAX Cr) := ⟨⟨f3, _, ok_ask_rest_above_nought TR F3 D_ask_rest, PySem.W.mg_of X G a3, k3, b3⟩⟩
  have D_Field : MakeX l.prog w K mg base "Field" C 2 ["self", "prime"] (spInitX C Cp) := ⟨f4, _, ok_Field___init__ T TP F4 D_is_prime, ⟨mk, a4, i4, kc⟩, PySem.W.mg_of X G aC, b4⟩
  have D_plus : MethX l.prog w K mg base C "plus" 2 ["self", "one", "other"] (spBinX C Cr) := ⟨T.cl, f5, _, ok_Field_plus T F5 D_ask_rest, ⟨a5, i5, k5⟩, b5⟩
  have D_times : MethX l.prog w K mg base C "times" 2 ["self", "one", "other"] (spBinX C Cr) := ⟨T.cl, f6, _, ok_Field_times T F6 D_ask_rest, ⟨a6, i6, k6⟩, b6⟩
  have D_power : MethX l.prog w K mg base C "power" 2 ["self", "one", "often"] (spPowX C Cr) := ⟨T.cl, f7, _, ok_Field_power T TR F7 D_ask_rest, ⟨a7, i7, k7⟩, b7⟩
  have D_inverse : MethX l.prog w K mg base C "inverse" 3 ["self", "one"] (spInvX C Cr) := ⟨T.cl, f8, _, ok_Field_inverse T F8 D_ask_rest_above_nought, ⟨a8, i8, k8⟩, b8⟩
  have D_order : MethX l.prog w K mg base C "order" 3 ["self", "one"] (spOrdX C Cr) := ⟨T.cl, f9, _, ok_Field_order T F9 D_ask_rest_above_nought, ⟨a9, i9, k9⟩, b9⟩
  have D_ask_rests : DefX l.prog w K mg base "ask_rests" 2 ["prime", "row"] (spAskRestsX K Cr) := ⟨⟨f10, _, ok_ask_rests F10 D_ask_rest, PySem.W.mg_of X G a10, k10, b10⟩⟩
  have D_ask_some : DefX l.prog w K mg base "ask_some" 1 ["row"] (spAskSomeX K Cw) := ⟨⟨f11, _, ok_ask_some T TW F11, PySem.W.mg_of X G a11, k11, b11⟩⟩
  have D_ask_figures : DefX l.prog w K mg base "ask_figures" 1 ["row"] (spAskFigsX K Cr) := ⟨⟨f12, _, ok_ask_figures TR F12, PySem.W.mg_of X G a12, k12, b12⟩⟩
  have D_ask_turn : DefX l.prog w K mg base "ask_turn" 4 ["field", "root", "row"] (spTurnX K C Cr Cw Co) := ⟨⟨f13, _, ok_ask_turn T TO F13 D_ask_rest_above_nought D_ask_rests D_ask_some D_order, PySem.W.mg_of X G a13, k13, b13⟩⟩
  have D_turned : DefX l.prog w K mg base "turned" 5 ["field", "root", "row"] (spTurnX K C Cr Cw Co) := ⟨⟨f14, _, ok_turned F14 D_ask_turn, PySem.W.mg_of X G a14, k14, b14⟩⟩
  have D_turned_back : DefX l.prog w K mg base "turned_back" 5 ["field", "root", "row"] (spTurnX K C Cr Cw Co) := ⟨⟨f15, _, ok_turned_back F15 D_ask_turn, PySem.W.mg_of X G a15, k15, b15⟩⟩
  have D_worth_at : DefX l.prog w K mg base "worth_at" 3 ["field", "row", "one"] (spWorthX K C Cr Cw) := ⟨⟨f16, _, ok_worth_at T F16 D_ask_rest D_ask_rests D_ask_some, PySem.W.mg_of X G a16, k16, b16⟩⟩
  have D_ask_both : DefX l.prog w K mg base "ask_both" 3 ["prime", "one", "other"] (spAskBothX K Cr Cw) := ⟨⟨f17, _, ok_ask_both F17 D_ask_rests D_ask_some, PySem.W.mg_of X G a17, k17, b17⟩⟩
  have D_ring_product : DefX l.prog w K mg base "ring_product" 4 ["field", "one", "other"] (spPairX K C Cr Cw true) := ⟨⟨f18, _, ok_ring_product T TW F18 D_ask_both, PySem.W.mg_of X G a18, k18, b18⟩⟩
  have D_plain_product : DefX l.prog w K mg base "plain_product" 4 ["field", "one", "other"] (spPairX K C Cr Cw false) := ⟨⟨f19, _, ok_plain_product T F19 D_ask_both, PySem.W.mg_of X G a19, k19, b19⟩⟩
  have D_long_product : DefX l.prog w K mg base "long_product" 2 ["one", "other"] (spLongX K Cr Cw) := ⟨⟨f20, _, ok_long_product F20 D_ask_figures D_ask_some, PySem.W.mg_of X G a20, k20, b20⟩⟩
  have D_ask_points : DefX l.prog w K mg base "ask_points" 2 ["prime", "points"] (spAskPointsX Cr Cw) := ⟨⟨f21, _, ok_ask_points T TW F21 D_ask_rest, PySem.W.mg_of X G a21, k21, b21⟩⟩
  have D_row_through : DefX l.prog w K mg base "row_through" 3 ["field", "points"] (spThroughX C Cr Cw) := ⟨⟨f22, _, ok_row_through T F22 D_ask_points, PySem.W.mg_of X G a22, k22, b22⟩⟩
  have D_law_cell_at : DefOk l.prog w K mg base "_law_cell_at" 1 ["script", "k"] (spCell K) := ⟨⟨f23, _, ok_law_cell_at T F23, PySem.W.mg_of X G a23, k23, b23⟩⟩
  have D_law_which : DefM l.prog w K mg base "_law_which" 1 ["e"] (spWhich K Cp Cr Cw Co) := ⟨⟨f24, _, ok_law_which T ve TP TR TW TO F24, PySem.W.mg_of X G a24, k24, b24⟩⟩
  have D_law_one_rest : DefX l.prog w K mg base "_law_one_rest" 4 ["field", "cell", "bad"] (spOneX C Cr) := ⟨⟨f25, _, ok_law_one_rest T F25 D_plus D_times D_power D_inverse D_order, PySem.W.mg_of X G a25, k25, b25⟩⟩
  have D_law_two : DefX l.prog w K mg base "_law_two" 5 ["way", "field", "one", "other", "turn"] (spTwoX K C Cr Cw) := ⟨⟨f26, _, ok_law_two F26 D_ring_product D_plain_product D_long_product, PySem.W.mg_of X G a26, k26, b26⟩⟩
  have D_law_row_rest : DefX l.prog w K mg base "_law_row_rest" 6 ["field", "cell", "bad"] (spOneX C Cr) := ⟨⟨f27, _, ok_law_row_rest T F27 D_turned D_turned_back D_worth_at D_law_two D_row_through, PySem.W.mg_of X G a27, k27, b27⟩⟩
  have D_law_no_row : DefX l.prog w K mg base "_law_no_row" 6 ["field", "cell"] (spRefX C Cw) := ⟨⟨f28, _, ok_law_no_row T F28 D_Field D_turned D_turned_back D_worth_at D_law_two D_row_through, PySem.W.mg_of X G a28, k28, b28⟩⟩
  have D_law_order : DefOk l.prog w K mg base "_law_order" 1 ["one"] spLO := ⟨⟨f29, _, ok_law_order F29, PySem.W.mg_of X G a29, k29, b29⟩⟩
  have D_law_no_root : DefX l.prog w K mg base "_law_no_root" 6 ["field", "cell"] (spRefX C Co) := ⟨⟨f30, _, ok_law_no_root T F30 D_Field D_turned D_turned_back D_law_order, PySem.W.mg_of X G a30, k30, b30⟩⟩
  exact ok_law T mS aS TP TR TW TO kp kr kw ko F31 D_law_cell_at D_Field D_law_which D_law_one_rest D_law_no_row D_law_no_root D_law_row_rest
theorem walk {l : PySem.W.OpenLaw} {q : Program} {loose : List Str} {XP : (Str → Option Value) → Heap → Prop} {YP : World → Heap → Prop} {d : DefRec} {K : Params → PySem.W.Frag} (hn : l.most = some 63) (hdf : d.params.defaults = [])
    (hY : ∀ (w : World) (h : Heap), YP w h → (K w.params).In h)
    (F : ∀ (w : World) (mg : Str → Option Value) (fa : Addr) (h : Heap), (K w.params).In h → h.Ns mainGlobals mg → mg d.name = some (.ref fa) →
      ∃ fd : FuncData, (∀ (s : Shared) (u : Value), BindsTo s fd ⟨[u], []⟩ [("script", u)]) ∧ ∀ base : Heap, (K w.params).In base → base.Ns mainGlobals mg → FnOk l.prog w (K w.params) mg base CX0 7 fa fd ["script"] (spLaw (K w.params))) :
    PySem.W.WalkO q loose XP YP l.row.toRowW d [] (fun f vs => PySem.call f vs) :=
  L2.walk_of (n := 63) (k := 7) (x := "script") (CX := fun _ => CX0) (sp := fun w => spLaw (K w.params)) hn (by decide) hdf ⟨rfl, by decide, by decide⟩ hY F (fun _ _ a ns hl _ hS => ⟨a, ns, rfl, hS, hl, fun _ => rfl⟩) fun _ _ _ _ _ z => z
end S
open PySem PySem.W PyProof.Rows
set_option maxRecDepth 100000 in
set_option maxHeartbeats 0 in
theorem PySem.Challenge.cw_spinsum_k14_each_refusal_its_own_holds : PySem.Challenge.rw_spinsum_k14_each_refusal_its_own.Holds := by
  w_on; o_law; k_head; (case hw => w_witness2)
  k_fill
  refine S.walk (l := PySem.Challenge.rw_spinsum_k14_each_refusal_its_own) rfl rfl (fun w h Y => PySem.W.kIn_of Y) ?F
  case F =>
    intro w mg fa h KX G hmg
    refine' S.all_mk KX G hmg ?aC ?a1 ?l1 ?c1 ?k1 ?a2 ?l2 ?c2 ?k2 ?a3 ?l3 ?c3 ?k3 ?a4 ?i4 ?l4 ?c4 ?k4 ?a5 ?i5 ?l5 ?c5 ?k5 ?a6 ?i6 ?l6 ?c6 ?k6 ?a7 ?i7 ?l7 ?c7 ?k7 ?a8 ?i8 ?l8 ?c8 ?k8 ?a9 ?i9 ?l9 ?c9 ?k9 ?a10 ?l10 ?c10 ?k10 ?a11 ?l11 ?c11 ?k11 ?a12 ?l12 ?c12 ?k12 ?a13 ?l13 ?c13 ?k13 ?a14 ?l14 ?c14 ?k14 ?a15 ?l15 ?c15 ?k15 ?a16 ?l16 ?c16 ?k16 ?a17 ?l17 ?c17 ?k17 ?a18 ?l18 ?c18 ?k18 ?a19 ?l19 ?c19 ?k19 ?a20 ?l20 ?c20 ?k20 ?a21 ?l21 ?c21 ?k21 ?a22 ?l22 ?c22 ?k22 ?a23 ?l23 ?c23 ?k23 ?a24 ?l24 ?c24 ?k24 ?a25 ?l25 ?c25 ?k25 ?a26 ?l26 ?c26 ?k26 ?a27 ?l27 ?c27 ?k27 ?a28 ?l28 ?c28 ?k28 ?a29 ?l29 ?c29 ?k29 ?a30 ?l30 ?c30 ?k30 ?a31 ?l31 ?c31 ?k31 ?pg ?hd ?po ?sa ?mk ?kc ?xsS ?xlS ?xve ?x4 ?x5 ?xsP ?xsR ?xsW ?xsO ?xeP ?xlP ?xaP ?xbP ?xcP ?xoP ?xvP ?yPP ?yPR ?yPW ?yPO ?xeR ?xlR ?xaR ?xbR ?xcR ?xoR ?xvR ?yRP ?yRR ?yRW ?yRO ?xeW ?xlW ?xaW ?xbW ?xcW ?xoW ?xvW ?yWP ?yWR ?yWW ?yWO ?xeO ?xlO ?xaO ?xbO ?xcO ?xoO ?xvO ?yOP ?yOR ?yOW ?yOO ?nA0 ?z0 ?z1 ?z2 ?z3 ?z4 ?z5 ?z6 ?z7 ?z8 ?z9 ?z10 ?z11 ?z12 ?z13 ?gl0 ?gl1
    (case aC => k_is); (case a1 => k_is); (case l1 => k_is); (case c1 => k_is); (case k1 => k_is); (case a2 => k_is)
    (case l2 => k_is); (case c2 => k_is); (case k2 => k_is); (case a3 => k_is); (case l3 => k_is); (case c3 => k_is)
    (case k3 => k_is); (case a4 => k_is); (case i4 => k_is); (case l4 => k_is); (case c4 => k_is); (case k4 => k_is)
    (case a5 => k_is); (case i5 => k_is); (case l5 => k_is); (case c5 => k_is); (case k5 => k_is); (case a6 => k_is)
    (case i6 => k_is); (case l6 => k_is); (case c6 => k_is); (case k6 => k_is); (case a7 => k_is); (case i7 => k_is)
    (case l7 => k_is); (case c7 => k_is); (case k7 => k_is); (case a8 => k_is); (case i8 => k_is); (case l8 => k_is)
    (case c8 => k_is); (case k8 => k_is); (case a9 => k_is); (case i9 => k_is); (case l9 => k_is); (case c9 => k_is)
    (case k9 => k_is); (case a10 => k_is); (case l10 => k_is); (case c10 => k_is); (case k10 => k_is); (case a11 => k_is)
    (case l11 => k_is); (case c11 => k_is); (case k11 => k_is); (case a12 => k_is); (case l12 => k_is); (case c12 => k_is)
    (case k12 => k_is); (case a13 => k_is); (case l13 => k_is); (case c13 => k_is); (case k13 => k_is); (case a14 => k_is)
    (case l14 => k_is); (case c14 => k_is); (case k14 => k_is); (case a15 => k_is); (case l15 => k_is); (case c15 => k_is)
    (case k15 => k_is); (case a16 => k_is); (case l16 => k_is); (case c16 => k_is); (case k16 => k_is); (case a17 => k_is)
    (case l17 => k_is); (case c17 => k_is); (case k17 => k_is); (case a18 => k_is); (case l18 => k_is); (case c18 => k_is)
    (case k18 => k_is); (case a19 => k_is); (case l19 => k_is); (case c19 => k_is); (case k19 => k_is); (case a20 => k_is)
    (case l20 => k_is); (case c20 => k_is); (case k20 => k_is); (case a21 => k_is); (case l21 => k_is); (case c21 => k_is)
    (case k21 => k_is); (case a22 => k_is); (case l22 => k_is); (case c22 => k_is); (case k22 => k_is); (case a23 => k_is)
    (case l23 => k_is); (case c23 => k_is); (case k23 => k_is); (case a24 => k_is); (case l24 => k_is); (case c24 => k_is)
    (case k24 => k_is); (case a25 => k_is); (case l25 => k_is); (case c25 => k_is); (case k25 => k_is); (case a26 => k_is)
    (case l26 => k_is); (case c26 => k_is); (case k26 => k_is); (case a27 => k_is); (case l27 => k_is); (case c27 => k_is)
    (case k27 => k_is); (case a28 => k_is); (case l28 => k_is); (case c28 => k_is); (case k28 => k_is); (case a29 => k_is)
    (case l29 => k_is); (case c29 => k_is); (case k29 => k_is); (case a30 => k_is); (case l30 => k_is); (case c30 => k_is)
    (case k30 => k_is); (case a31 => k_is); (case l31 => k_is); (case c31 => k_is); (case k31 => k_is); (case pg => k_is)
    (case hd => k_is); (case po => k_is); (case sa => k_is); (case mk => k_is); (case kc => k_is); (case xsS => k_is)
    (case xlS => k_is); (case xve => k_is); (case x4 => k_is); (case x5 => k_is); (case xsP => k_is); (case xsR => k_is)
    (case xsW => k_is); (case xsO => k_is); (case xeP => k_exc); (case xlP => k_is); (case xaP => k_is); (case xbP => k_is)
    (case xcP => k_is); (case xoP => k_is); (case xvP => kit_is); (case yPP => kit_is); (case yPR => kit_is); (case yPW => kit_is)
    (case yPO => kit_is); (case xeR => k_exc); (case xlR => k_is); (case xaR => k_is); (case xbR => k_is); (case xcR => k_is)
    (case xoR => k_is); (case xvR => kit_is); (case yRP => kit_is); (case yRR => kit_is); (case yRW => kit_is); (case yRO => kit_is)
    (case xeW => k_exc); (case xlW => k_is); (case xaW => k_is); (case xbW => k_is); (case xcW => k_is); (case xoW => k_is)
    (case xvW => kit_is); (case yWP => kit_is); (case yWR => kit_is); (case yWW => kit_is); (case yWO => kit_is); (case xeO => k_exc)
    (case xlO => k_is); (case xaO => k_is); (case xbO => k_is); (case xcO => k_is); (case xoO => k_is); (case xvO => kit_is)
    (case yOP => kit_is); (case yOR => kit_is); (case yOW => kit_is); (case yOO => kit_is); (case nA0 => k_is); (case z0 => k_is)
    (case z1 => k_is); (case z2 => k_is); (case z3 => k_is); (case z4 => k_is); (case z5 => k_is); (case z6 => k_is)
    (case z7 => k_is); (case z8 => k_is); (case z9 => k_is); (case z10 => k_is); (case z11 => k_is); (case z12 => k_is)
    (case z13 => k_is); (case gl0 => k_is); (case gl1 => k_is)
#print axioms PySem.Challenge.cw_spinsum_k14_each_refusal_its_own_holds
